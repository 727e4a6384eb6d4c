/- The walk through ChunkLists; of no statement by itself. -/
import Derived.Test.YtannepoclpmedaaDoorBla
import Derived.Test.YtannepoclpmedaaDoorCs
import Derived.BigQuiet
import Derived.BigRegion
import Derived.Deep.QuietTactic
namespace Go.Proofs.YtannepoclpmedaaDoor
open Go.RowKit
open St12
set_option linter.unusedVariables false
set_option linter.unusedSimpArgs false
namespace Ck17
def pf (c : Chk) : Option (List Nat) := if (putA c).2 = 0 then some (putA c).1 else none
def Rw (L : List Chk) (r k : Nat) : List (List Nat) := (List.replicate r (L.filterMap pf)).flatten ++ (L.take k).filterMap pf
theorem rw_nil (L : List Chk) : Rw L 0 0 = [] := by simp [Rw]
theorem rw_ok {L : List Chk} {r k : Nat} {c : Chk} (h : L[k]? = some c) (e : (putA c).2 = 0) : Rw L r (k + 1) = Rw L r k ++ [(putA c).1] := by
  obtain ⟨hl, rfl⟩ := List.getElem?_eq_some_iff.1 h
  unfold Rw
  rw [List.take_succ_eq_append_getElem hl, List.filterMap_append]
  simp [pf, e]
theorem rw_no {L : List Chk} {r k : Nat} {c : Chk} (h : L[k]? = some c) (e : (putA c).2 ≠ 0) : Rw L r (k + 1) = Rw L r k := by
  obtain ⟨hl, rfl⟩ := List.getElem?_eq_some_iff.1 h
  unfold Rw
  rw [List.take_succ_eq_append_getElem hl, List.filterMap_append]
  simp [pf, e]
theorem rw_all (L : List Chk) (r : Nat) : Rw L r L.length = Rw L (r + 1) 0 := by
  unfold Rw
  rw [List.take_length, List.replicate_succ', List.flatten_append]
  simp
theorem rw_two (L : List Chk) : Rw L 2 0 = L.filterMap pf ++ L.filterMap pf := by
  simp [Rw, List.replicate_succ]
theorem rw_len (L : List Chk) (r k : Nat) (hk : k ≤ L.length) : (Rw L r k).length ≤ r * L.length + k := by
  have h1 := List.length_filterMap_le pf L
  have h2 := List.length_filterMap_le pf (L.take k)
  rw [List.length_take, Nat.min_eq_left hk] at h2
  unfold Rw
  rw [List.length_append, List.length_flatten, List.map_replicate, List.sum_replicate_nat]
  have := Nat.mul_le_mul_left r h1
  omega
theorem rw_mem {L : List Chk} {r k : Nat} {b : List Nat} (h : b ∈ Rw L r k) : 1 ≤ b.length ∧ b.length ≤ 6 := by
  have key : ∀ l : List Chk, b ∈ l.filterMap pf → 1 ≤ b.length ∧ b.length ≤ 6 := fun l hb => by
    obtain ⟨c, _, hc⟩ := List.mem_filterMap.1 hb
    unfold pf at hc
    split at hc
    · next e =>
      injection hc with hc
      subst hc
      exact ⟨(there c [] e).2, len_put c⟩
    · cases hc
  unfold Rw at h
  rcases List.mem_append.1 h with h | h
  · obtain ⟨l, h1, h2⟩ := List.mem_flatten.1 h
    rw [(List.mem_replicate.1 h1).2] at h2
    exact key _ h2
  · exact key _ h
end Ck17
theorem from_v (w : World) (v : Value) (t : TypeId) : From (w.alloc (.cells #[v] t)) (some ⟨w.heap.size, 0, none⟩) 1 1 1 [v] := by
  refine ⟨rfl, .inr ⟨_, rfl, fun j u hu => ?_⟩⟩
  rw [addk, Nat.zero_add]
  simp only [World.cell?, heap_alloc_last]
  simpa using hu
def LgJ (w0 wr : World) (hv lv : Value) (vs ls : List Value) (N : Nat → Nat) (m n1 q : Nat) (u5 u6 u7 u8 : Value) (w : World) : Prop :=
  (q ≤ 1 → Chg (fun _ => False) wr w) ∧ (q = 1 → ∃ ta tc, u5 = .slice ta 70 tc ∧ ByO w w0.heap.size (.slice ta 70 tc) (List.replicate 70 (tmB m))) ∧ (q = 2 → ∃ l1 l2, u6 = .slice l1 (n1 + 70) l2 ∧ Lg w0 w hv vs N lv ls m ∧ Nw w0 w vs N m (.slice l1 (n1 + 70) l2)) ∧
  (q = 3 → ∃ l1 l2 bb, u7 = .slice (some ⟨bb, 0, none⟩) 1 1 ∧ Lg w0 w hv vs N lv ls m ∧ Nw w0 w vs N m (.slice l1 (n1 + 70) l2) ∧ From w (some ⟨bb, 0, none⟩) 1 1 1 [.slice l1 (n1 + 70) l2]) ∧ (q = 4 → ∃ a9 d9 ls', u8 = .slice a9 (m + 1) d9 ∧ Lg w0 w hv vs N (.slice a9 (m + 1) d9) ls' (m + 1))
def TjJ (w0 wr : World) (p q : Nat) (u8 : Value) (w : World) : Prop := Chg (fun _ => False) wr w ∧ (q = 1 → ∃ ta tc, u8 = .slice ta 70 tc ∧ ByO w w0.heap.size (.slice ta 70 tc) (List.replicate 70 (tmB p)))
variable {Tab : World → Prop}
set_option maxHeartbeats 16000000 in
set_option maxRecDepth 100000 in
theorem lists17_any (S : ChunkSpec Tab) (ad : Option Addr) (n c : Nat) (L : List Chk) (w0 : World) (hT : Tab w0) (hL : ∀ (k : Nat) (q : Chk), L[k]? = some q → q.I ∧ ∃ b off, ad = some ⟨b, off, none⟩ ∧ w0.cell? ⟨b, off + k * 6, none⟩ = some (.int .i64 q.k) ∧ w0.cell? ⟨b, off + k * 6 + 1, none⟩ = some (.int .i64 q.s) ∧ w0.cell? ⟨b, off + k * 6 + 2, none⟩ = some (.int .i64 q.p) ∧ w0.cell? ⟨b, off + k * 6 + 3, none⟩ = some (.int .i64 q.lc) ∧ w0.cell? ⟨b, off + k * 6 + 4, none⟩ = some (.int .i64 q.lp) ∧ w0.cell? ⟨b, off + k * 6 + 5, none⟩ = some (.int .i64 q.pb)) (hl : L.length = n) (hn : n ≤ 2932031007317) : Calls Tryd.prog 6 #[.slice ad n c] w0 fun e w' => e = .returned (.bool true) ∧ Chg (fun _ => False) w0 w' := by
  obtain ⟨jb, hjb, hb0, hb1, hb2⟩ := info_parts infoBs
  obtain ⟨js, hjs, hs0, hs1, hs2⟩ := info_parts infoStr
  have HL : Hid (∀ (k : Nat) (q : Chk), L[k]? = some q → q.I ∧ ∃ b off, ad = some ⟨b, off, none⟩ ∧ w0.cell? ⟨b, off + k * 6, none⟩ = some (.int .i64 q.k) ∧ w0.cell? ⟨b, off + k * 6 + 1, none⟩ = some (.int .i64 q.s) ∧ w0.cell? ⟨b, off + k * 6 + 2, none⟩ = some (.int .i64 q.p) ∧ w0.cell? ⟨b, off + k * 6 + 3, none⟩ = some (.int .i64 q.lc) ∧ w0.cell? ⟨b, off + k * 6 + 4, none⟩ = some (.int .i64 q.lp) ∧ w0.cell? ⟨b, off + k * 6 + 5, none⟩ = some (.int .i64 q.pb)) := hL
  have HLL : Hid (L.length = n) := hl
  have HT : Hid (Tab w0) := hT
  have HN : Hid (∀ x ww, Calls Tryd.prog 10 #[.int .i64 x] ww fun e w' => e = .returned (.int .i64 x) ∧ w' = ww) := num_q
  have HRL : Hid (∀ r k, r ≤ 1 → k ≤ n → (Ck17.Rw L r k).length ≤ 2 * n) := fun r k hr hk => by
    have h9 := Ck17.rw_len L r k (by rw [hl]; exact hk)
    rw [hl] at h9
    have : r * n ≤ 1 * n := Nat.mul_le_mul_right n hr
    omega
  have HRA : Hid (∀ r, Ck17.Rw L r n = Ck17.Rw L (r + 1) 0) := fun r => by rw [← hl]; exact Ck17.rw_all L r
  have hni : (n : Int) ≤ 2932031007317 := by omega
  clear hL hl hT
  go_enter Tryd.func6, Tryd.ntmps6
  go_wp2_with fail
  go_loopw [3, 4, 16] (fun hv sv i wr => ∃ r : Nat, r ≤ 2 ∧ i = .int .i64 (r : Int) ∧ ∃ vs, Hid (Ph w0 wr hv sv vs (Ck17.Rw L r 0))) (fun _ _ i _ => 2 - (intOf i).toNat)
  case atStart => exact ⟨0, by omega, rfl, [], by rw [Ck17.rw_nil]; exact ph_nil w0⟩
  case round =>
    obtain ⟨r, hr, rfl, vs, HP⟩ := hrel
    have hri : (r : Int) ≤ 2 := by omega
    by_cases hr2 : r < 2
    · have d0 : decide ((r : Int) < 2) = true := decide_eq_true (by omega)
      have d0' : decide (r < 2) = true := decide_eq_true hr2
      generalize wr = wa at *
      go_wp2_with fail
      go_loopw [3, 4, 20] (fun hv sv i wr => ∃ k : Nat, k ≤ n ∧ i = .int .i64 (k : Int) ∧ ∃ vs, Hid (Ph w0 wr hv sv vs (Ck17.Rw L r k))) (fun _ _ i _ => n - (intOf i).toNat)
      case atStart => exact ⟨0, by omega, rfl, vs, HP⟩
      case round =>
        clear HP
        obtain ⟨k, hk, rfl, vs, HP⟩ := hrel
        have hki : (k : Int) ≤ (n : Int) := by omega
        by_cases hlt : k < n
        · have d1 : decide ((k : Int) < (n : Int)) = true := decide_eq_true (by omega)
          have d1' : decide (k < n) = true := decide_eq_true hlt
          obtain ⟨q, hq⟩ : ∃ q, L[k]? = some q := ⟨L[k]'(by rw [HLL.out]; exact hlt), List.getElem?_eq_getElem _⟩
          obtain ⟨hqI, b, off, rfl, x0, x1, x2, x3, x4, x5⟩ := HL.out k q hq
          have hci := HP.out.chg
          replace x0 := cell_chg x0 hci
          replace x1 := cell_chg x1 hci
          replace x2 := cell_chg x2 hci
          replace x3 := cell_chg x3 hci
          replace x4 := cell_chg x4 hci
          replace x5 := cell_chg x5 hci
          have hdl := HRL.out r k (by omega) hk
          obtain ⟨D, hD⟩ : ∃ D, Ck17.Rw L r k = D := ⟨_, rfl⟩
          rw [hD] at HP hdl
          have hvl := HP.out.len
          obtain ⟨ha, hc, rfl⟩ := form1 HP.out.own
          obtain ⟨sa, sc, rfl⟩ := form1 HP.out.str
          rw [hvl] at HP ⊢
          have cA := chg_one wr (.cells #[.int .i64 q.k, .int .i64 q.s, .int .i64 q.p, .int .i64 q.lc, .int .i64 q.lp, .int .i64 q.pb] 25)
          have HPA : Hid _ := HP.out.new cA
          have HPU : Hid _ := S.put q _ (S.keep HT.out HPA.out.chg) hqI
          unfold chv at HPU
          obtain ⟨bb, hbb⟩ : ∃ b, (Ck17.putA q).1 = b := ⟨_, rfl⟩
          obtain ⟨er, her⟩ : ∃ e, (Ck17.putA q).2 = e := ⟨_, rfl⟩
          rw [hbb, her] at HPU
          clear hci HP cA
          obtain ⟨qk, qs, qp, q1, q2, q3⟩ := q
          simp only at HPU x0 x1 x2 x3 x4 x5
          go_wp2_with fail
          generalize hWA : wr.alloc (.cells #[.int .i64 qk, .int .i64 qs, .int .i64 qp, .int .i64 q1, .int .i64 q2, .int .i64 q3] 25) = WA at *
          refine Calls.mono HPU.out ?_
          rintro z w2 ⟨ov, rfl, hbo, c2⟩
          have HP2 : Hid _ := HPA.out.new c2
          have HBO : Hid (ByO w2 WA.heap.size ov bb) := hbo
          obtain ⟨oa, oc, rfl⟩ := form1 hbo
          have HC2 : Hid (Chg (fun _ => False) WA w2) := c2
          clear HPU hbo c2 x0 x1 x2 x3 x4 x5 hWA
          go_wp2_with fail
          refine Calls.mono (HN.out _ _) ?_
          rintro z w3 ⟨rfl, rfl⟩
          by_cases he : er = 0
          · subst he
            have HD1 : Hid (Ck17.Rw L r (k + 1) = D ++ [bb]) := by show _ = _; rw [Ck17.rw_ok hq her, hD, hbb]
            have cB := chg_one w3 (.cells #[.slice oa bb.length oc] 26)
            have hown2 : (w3.alloc (.cells #[.slice oa bb.length oc] 26)).ownsRow w0.heap.size 26 1 (.slice ha D.length hc) D.length vs := by
              have := (HP2.out.own.new cB)
              unfold LsO at this
              rw [hvl] at this
              exact this
            have hfr := from_v w3 (.slice oa bb.length oc) 26
            clear hD hbb her hq hqI
            go_wp2_with (at_builtin; refine wpList_append_moved rfl (.tmp 32) (.tmp 34) 40 rfl w0.heap.size 26 jb (.slice none 0 0) 1 24 Tryd.underlying40 hjb hb0 hb1 hb2 rfl (by decide) _ D.length vs rfl (some ⟨w3.heap.size, 0, none⟩) 1 1 rfl [.slice oa bb.length oc] hown2 hfr (fun y hy => by simp at hy; subst hy; rfl) (by unfold maxLen; omega) (by omega) (Nat.le_trans HP2.out.chg.size cB.size) ?_)
            intro v4 w4 ho4 hg4 _
            have hOne := HPA.out.one (chg_then HC2.out cB) (HBO.out.new cB) ho4 hg4
            obtain ⟨a4, c4, rfl⟩ := form1 ho4
            have HO4 : Hid _ := hOne.1
            have hcv : (convert 26 9 (.slice oa bb.length oc)).run Tryd.prog w4 = .ok (.string (strOfNums (nums bb))) w4 := conv_own hOne.2
            obtain ⟨st, hst⟩ : ∃ s, strOfNums (nums bb) = s := ⟨_, rfl⟩
            rw [hst] at hcv
            have cC := chg_one w4 (.cells #[.string st] 9)
            have hstr := (ph_free HO4.out cC).2.2.2.1
            have hfr2 := from_v w4 (.string st) 9
            have hs4 := (ph_free HO4.out cC).2.2.2.2.size
            clear hown2 hfr ho4 hg4 hOne cB HP2 HBO HC2 HPA
            go_wp2_with (at_builtin; refine wpList_append_moved rfl (.tmp 36) (.tmp 39) 41 rfl w0.heap.size 9 js (.string ByteArray.empty) 1 16 Tryd.underlying41 hjs hs0 hs1 hs2 rfl (by decide) _ D.length (D.map fun b => .string (strOfNums (nums b))) rfl (some ⟨w4.heap.size, 0, none⟩) 1 1 rfl [.string st] hstr hfr2 (fun y hy => by simp at hy; subst hy; rfl) (by unfold maxLen; omega) (by omega) hs4 ?_)
            intro v5 w5 ho5 hg5 _
            rw [← hst] at ho5
            have HP5 : Hid _ := Ph.two (by rw [List.length_append, hvl]; rfl) (ph_free HO4.out cC) ho5 hg5
            obtain ⟨a5, c5, rfl⟩ := form1 ho5
            clear ho5 hg5 hstr hfr2 cC HO4 hcv hst hs4
            go_wp2
            go_roundw
            case rel => exact ⟨k + 1, by omega, by go_num, _, by rw [HD1.out]; exact HP5⟩
            case measure => simp [intOf]; omega
          · have e1 : (er == 0) = false := by simpa using he
            have HD1 : Hid (Ck17.Rw L r (k + 1) = D) := by show _ = _; rw [Ck17.rw_no hq (by rw [her]; exact he), hD]
            clear hD hbb her hq hqI he HBO HC2 HPA
            go_wp2
            go_roundw
            case rel => exact ⟨k + 1, by omega, by go_num, vs, by rw [HD1.out]; exact HP2⟩
            case measure => simp [intOf]; omega
        · obtain rfl : k = n := by omega
          have d1 : decide ((k : Int) < (k : Int)) = false := decide_eq_false (by omega)
          rw [HRA.out] at HP
          go_wp2
          go_roundw
          case rel => exact ⟨r + 1, by omega, by go_num, vs, HP⟩
          case measure => simp [intOf]; omega
    · obtain rfl : r = 2 := by omega
      have HDD : Hid (Ck17.Rw L 2 0 = L.filterMap Ck17.pf ++ L.filterMap Ck17.pf) := Ck17.rw_two L
      have HMM : Hid (∀ b ∈ Ck17.Rw L 2 0, 1 ≤ b.length ∧ b.length ≤ 6) := fun b hb => Ck17.rw_mem hb
      have hhl : (L.filterMap Ck17.pf).length ≤ n := by rw [← HLL.out]; exact List.length_filterMap_le _ _
      obtain ⟨fs, hfs⟩ : ∃ fs, L.filterMap Ck17.pf = fs := ⟨_, rfl⟩
      rw [hfs] at HDD hhl
      obtain ⟨D, hD⟩ : ∃ D, Ck17.Rw L 2 0 = D := ⟨_, rfl⟩
      rw [hD] at HDD HMM HP
      obtain ⟨h, hh⟩ : ∃ h, fs.length = h := ⟨_, rfl⟩
      rw [hh] at hhl
      have hvl := HP.out.len
      have hDl : D.length = 2 * h := by rw [HDD.out, List.length_append, hh]; omega
      have HDS : Hid (∀ i, h ≤ i → i < 2 * h → D[i]? = D[i - h]?) := fun i h1 h2 => by
        rw [HDD.out, List.getElem?_append_right (by omega), List.getElem?_append_left (by omega), hh]
      obtain ⟨ha, hc, rfl⟩ := form1 HP.out.own
      obtain ⟨sa, sc, rfl⟩ := form1 HP.out.str
      rw [hvl, hDl] at HP ⊢
      have HVL : Hid (vs.length = 2 * h) := by show _ = _; rw [hvl, hDl]
      have HDL : Hid (D.length = 2 * h) := hDl
      have hhi : (h : Int) ≤ 2932031007317 := by omega
      obtain ⟨M, hM⟩ : ∃ M, 2 * h = M := ⟨_, rfl⟩
      rw [hM] at HVL HDL HDS HP ⊢
      have hMi : (M : Int) ≤ 5864062014634 := by omega
      have tq : (M : Int).tdiv 2 = (h : Int) := by rw [← hM]; show ((2 * h : Nat) : Int).tdiv 2 = _; rw [Int.tdiv_eq_ediv_of_nonneg (by omega)]; omega
      clear hfs hh hD hvl hDl HL HLL HRL HRA HDD
      generalize wr = wa at *
      go_wp2_with fail
      go_loopw [45] (fun i wr => ∃ k : Nat, k ≤ M ∧ i = .int .i64 (k : Int) ∧ Hid (Chg (fun _ => False) wa wr)) (fun i _ => M - (intOf i).toNat)
      case atStart => exact ⟨0, by omega, rfl, Chg.refl _ _⟩
      case round =>
        obtain ⟨k, hk, rfl, HC⟩ := hrel
        have hki : (k : Int) ≤ (M : Int) := by omega
        have HPr : Hid _ := HP.out.new HC.out
        by_cases hlt : k < M
        · have d1 : decide ((k : Int) < (M : Int)) = true := decide_eq_true (by omega)
          have d1' : decide (k < M) = true := decide_eq_true hlt
          have hki2 : (k : Int) < (M : Int) := by omega
          obtain ⟨v, hv⟩ : ∃ v, vs[k]? = some v := ⟨vs[k]'(by rw [HVL.out]; exact hlt), List.getElem?_eq_getElem _⟩
          obtain ⟨b, hb⟩ : ∃ b, D[k]? = some b := ⟨D[k]'(by rw [HDL.out]; exact hlt), List.getElem?_eq_getElem _⟩
          have hbo : ByO wr w0.heap.size v (D.getD k []) := HPr.out.pcs k v hv
          rw [show D.getD k [] = b by rw [List.getD_eq_getElem?_getD, hb]; rfl] at hbo
          obtain ⟨va, vc, rfl⟩ := byO_form hbo
          obtain ⟨ga, ca, e1, _, kh⟩ := lso_at HPr.out.own hv
          simp only [Value.slice.injEq] at e1
          have e11 := e1.1
          subst e11
          clear e1
          have hstr := HPr.out.str
          rw [HDL.out] at hstr
          obtain ⟨gs, cs, e2, _, _, _, _, _, _⟩ := own_some hstr (by omega)
          simp only [Value.slice.injEq] at e2
          have e21 := e2.1
          subst e21
          clear e2
          have ks : wr.cell? ⟨gs, k, none⟩ = some (.string (strOfNums (nums b))) := by
            rw [hstr.cellAt k (by omega), List.getElem?_map, hb]
            rfl
          have hcv : ∀ nq, (convert 26 9 (.slice va b.length vc)).run Tryd.prog (wr.drewN nq) = .ok (.string (strOfNums (nums b))) (wr.drewN nq) := fun nq => conv_own (hbo.new (chg_drewN wr nq))
          by_cases hge : h ≤ k
          · have d2 : decide ((h : Int) ≤ (k : Int)) = true := decide_eq_true (by omega)
            have d2' : decide (h ≤ k) = true := decide_eq_true hge
            have ks2 : wr.cell? ⟨gs, k - h, none⟩ = some (.string (strOfNums (nums b))) := by
              rw [hstr.cellAt (k - h) (by omega), List.getElem?_map, ← HDS.out k hge hlt, hb]
              rfl
            obtain ⟨j, hj⟩ : ∃ j, k - h = j := ⟨_, rfl⟩
            have hkj : (k : Int) - (h : Int) = (j : Int) := by omega
            have hjM : (j : Int) < (M : Int) := by omega
            rw [hj] at ks2
            generalize strOfNums (nums b) = s at *
            generalize b.length = bl at *
            clear hstr hbo hb hv HPr hj hge
            go_wp2_with fail
            go_quiet (fail)
            go_wp2
            go_roundw
            case rel => exact ⟨k + 1, by omega, by go_num, chg_then HC.out (chg_drewN _ _)⟩
            case measure => simp [intOf]; omega
          · have d2 : decide ((h : Int) ≤ (k : Int)) = false := decide_eq_false (by omega)
            have d2' : decide (h ≤ k) = false := decide_eq_false hge
            generalize strOfNums (nums b) = s at *
            generalize b.length = bl at *
            clear hstr hbo hb hv HPr hge
            go_wp2_with fail
            go_quiet (fail)
            go_wp2
            go_roundw
            case rel => exact ⟨k + 1, by omega, by go_num, chg_then HC.out (chg_drewN _ _)⟩
            case measure => simp [intOf]; omega
        · obtain rfl : k = M := by omega
          have d1 : decide ((k : Int) < (k : Int)) = false := decide_eq_false (by omega)
          obtain ⟨N, hNe⟩ : ∃ N : Nat → Nat, N = fun j => (D.getD j []).length := ⟨_, rfl⟩
          have HMK : Hid (Mk1 w0 vs (.slice ha k hc) N 0 wr) := ⟨_, HPr.out.pcs, fun j _ => by rw [hNe], fun j hj => by omega, HPr.out.own, HPr.out.chg⟩
          have HIN : Hid (Inj vs) := HPr.out.inj
          have HNB : Hid (∀ j v, vs[j]? = some v → ∃ g n c, v = .slice (some ⟨g, 0, none⟩) n c ∧ N j = n ∧ 1 ≤ n ∧ n ≤ 6) := fun j v hv => by
            have hbo : ByO wr w0.heap.size v (D.getD j []) := HPr.out.pcs j v hv
            have hj : j < D.length := by have h9 := (List.getElem?_eq_some_iff.1 hv).1; rw [HVL.out] at h9; rw [HDL.out]; exact h9
            have hm := HMM.out (D.getD j []) (by rw [List.getD_eq_getElem?_getD, List.getElem?_eq_getElem hj]; exact List.getElem_mem hj)
            obtain ⟨g, c, rfl, _⟩ := own_some hbo hm.1
            exact ⟨g, _, c, rfl, by rw [hNe], hm.1, hm.2⟩
          clear hNe HP HPr HC HDS HDL HMM
          generalize wr = wb at *
          go_wp2_with fail
          go_loopw [83] (fun i wr => ∃ j : Nat, j ≤ k ∧ i = .int .i64 (j : Int) ∧ Hid (Mk1 w0 vs (.slice ha k hc) N j wr)) (fun i _ => k - (intOf i).toNat)
          case atStart => exact ⟨0, by omega, rfl, HMK⟩
          case round =>
            clear HMK
            obtain ⟨j, hj, rfl, HMK⟩ := hrel
            have hji : (j : Int) ≤ (k : Int) := by omega
            by_cases hlt : j < k
            · have d2 : decide ((j : Int) < (k : Int)) = true := decide_eq_true (by omega)
              have d2' : decide (j < k) = true := decide_eq_true hlt
              have hji2 : (j : Int) < (k : Int) := by omega
              obtain ⟨v, hv⟩ : ∃ v, vs[j]? = some v := ⟨vs[j]'(by rw [HVL.out]; exact hlt), List.getElem?_eq_getElem _⟩
              obtain ⟨g, n1, c1, rfl, hNn, hn1, hn6⟩ := HNB.out j v hv
              have HM2 : Hid (Mk2 w0 vs (.slice ha k hc) N j 0 wr) := HMK.out.start
              obtain ⟨⟨ga, ca, e1, kh⟩, _, _⟩ := HM2.out.at hv (by omega)
              simp only [Value.slice.injEq] at e1
              obtain ⟨rfl, _, rfl⟩ := e1
              have HNN : Hid (N j = n1) := hNn
              have HVJ : Hid (vs[j]? = some (.slice (some ⟨g, 0, none⟩) n1 c1)) := hv
              have hw8 : IntKind.u8.wrap (j : Int) = ((mkB j : Nat) : Int) := by unfold mkB; simp [IntKind.wrap, IntKind.signed, IntKind.bits]
              have hn6i : (n1 : Int) ≤ 6 := by omega
              clear HMK hv hNn
              generalize wr = wc at *
              go_wp2_with fail
              go_loopw [91] (fun i wr => ∃ t : Nat, t ≤ n1 ∧ i = .int .i64 (t : Int) ∧ Hid (Mk2 w0 vs (.slice (some ⟨ga, 0, none⟩) k hc) N j t wr)) (fun i _ => n1 - (intOf i).toNat)
              case atStart => exact ⟨0, by omega, rfl, HM2⟩
              case round =>
                clear HM2 kh
                obtain ⟨t, ht, rfl, HM2⟩ := hrel
                have hti : (t : Int) ≤ (n1 : Int) := by omega
                by_cases htl : t < n1
                · have d3 : decide ((t : Int) < (n1 : Int)) = true := decide_eq_true (by omega)
                  have d3' : decide (t < n1) = true := decide_eq_true htl
                  have hti2 : (t : Int) < (n1 : Int) := by omega
                  obtain ⟨⟨ga', ca', e1, kh⟩, ⟨u, ku⟩, fu⟩ := HM2.out.at HVJ.out htl
                  simp only [Value.slice.injEq, Option.some.injEq, Addr.mk.injEq] at e1
                  obtain ⟨⟨rfl, _⟩, _, rfl⟩ := e1
                  have HM3 : Hid _ := HM2.out.step HIN.out HVJ.out htl
                  clear HM2
                  go_wp2
                  go_roundw
                  case rel => exact ⟨t + 1, by omega, by go_num, HM3⟩
                  case measure => simp [intOf]; omega
                · obtain rfl : t = n1 := by omega
                  have d3 : decide ((t : Int) < (t : Int)) = false := decide_eq_false (by omega)
                  have HM3 : Hid (Mk1 w0 vs (.slice (some ⟨ga, 0, none⟩) k hc) N (j + 1) wr) := Mk2.done (by rw [HNN.out]; exact HM2.out)
                  clear HM2
                  go_wp2
                  go_roundw
                  case rel => exact ⟨j + 1, by omega, by go_num, HM3⟩
                  case measure => simp [intOf]; omega
            · obtain rfl : j = k := by omega
              have d2 : decide ((j : Int) < (j : Int)) = false := decide_eq_false (by omega)
              obtain ⟨iu, hiu, hu0, hu1, hu2⟩ := info_parts info5u
              have hall := Mk1.all (by rw [HVL.out]; exact HMK.out)
              have HLG : Hid (Lg w0 wr (.slice ha j hc) vs N (.slice none 0 0) [] 0) := lg_nil hall.1 HIN.out hall.2.1 hall.2.2
              clear hall HMK
              generalize wr = wd at *
              go_wp2_with fail
              go_loopw [12, 106] (fun lv i wr => ∃ m : Nat, m ≤ j ∧ i = .int .i64 (m : Int) ∧ ∃ ls, Hid (Lg w0 wr (.slice ha j hc) vs N lv ls m)) (fun _ i _ => j - (intOf i).toNat)
              case atStart => exact ⟨0, by omega, rfl, [], HLG⟩
              case round =>
                clear HLG
                obtain ⟨m, hm, rfl, ls, HLG⟩ := hrel
                have hmi : (m : Int) ≤ (j : Int) := by omega
                by_cases hlt : m < j
                · have d3 : decide ((m : Int) < (j : Int)) = true := decide_eq_true (by omega)
                  have d3' : decide (m < j) = true := decide_eq_true hlt
                  have hmi2 : (m : Int) < (j : Int) := by omega
                  obtain ⟨v, hv⟩ : ∃ v, vs[m]? = some v := ⟨vs[m]'(by rw [HVL.out]; exact hlt), List.getElem?_eq_getElem _⟩
                  obtain ⟨g, n1, c1, rfl, hNn, hn1, hn6⟩ := HNB.out m v hv
                  obtain ⟨ga, ca, e1, _, kh⟩ := lso_at HLG.out.own hv
                  simp only [Value.slice.injEq] at e1
                  have e11 := e1.1
                  subst e11
                  clear e1
                  obtain ⟨la, lc, hlv⟩ := form1 HLG.out.lown
                  rw [HLG.out.llen] at hlv
                  subst hlv
                  have HNN : Hid (N m = n1) := hNn
                  have HVJ : Hid (vs[m]? = some (.slice (some ⟨g, 0, none⟩) n1 c1)) := hv
                  have HTL : Hid (∀ ww, Calls Tryd.prog 15 #[.int .i64 (m : Int)] ww fun e w' => ∃ p, e = .returned p ∧ ByO w' ww.heap.size p (List.replicate 70 (tmB m)) ∧ Chg (fun _ => False) ww w') := fun ww => tail_any m ww (by omega)
                  clear hNn hv
                  go_upto_region 33 with fail
                  refine wp_region_phaseQ (mk := fun u => #[_, _, _, _, _, _, _, _, _, _, _, _, _, _, _, _, _, _, _, _, _, _, _, _, _, _, _, _, _, _, _, _, _, _, _, _, _, _, _, _, _, _, _, _, _, _, _, _, _, _, _, _, _, _, _, _, _, _, _, _, _, _, _, _, _, _, _, _, _, _, _, _, _, _, _, _, _, _, _, _, _, _, _, _, _, _, _, _, _, _, _, _, _, _, _, _, _, _, _, _, _, _, _, _, _, _, _, _, _, u 109, u 110, u 111, u 112, u 113, u 114, u 115, u 116, u 117, u 118, _, _, _, _, _, _, _, _, _, _, _, _, _, _, _, _, _, _, _, _, _, _, _, _, _, _, _, _, _, _, _, _, _, _, _, _, _, _, _, _, _, _, _, _, _, _, _, _, _, _, _, _, _, _]) (G := lookG [(109, .slice la m lc), (110, .slice (some ⟨ga, 0, none⟩) j hc), (111, .int .i64 (m : Int)), (112, .pointer (some ⟨ga, m, none⟩)), (113, .slice (some ⟨g, 0, none⟩) n1 c1), (114, .int .i64 (m : Int))]) (J := fun q u ww => LgJ w0 wr (.slice (some ⟨ga, 0, none⟩) j hc) (.slice la m lc) vs ls N m n1 q (u 115) (u 116) (u 117) (u 118) ww) [6, 7, 8, 9] (fun i => if i = 4 then 1 else 4) ([]) (fun slot => match slot with | 109 => u109 | 110 => u110 | 111 => u111 | 112 => u112 | 113 => u113 | 114 => u114 | 115 => u115 | 116 => u116 | 117 => u117 | 118 => u118 | _ => undef) rfl (by kernel_rfl) 10 _ rfl rfl (by kernel_rfl) (by kernel_rfl) (by kernel_rfl) (by decide) ?_ ?_ ?_ (by kernel_rfl) ?_ ?_
                  · repeat (refine ⟨fun _ _ => rfl, ?_⟩)
                    exact trivial
                  · intro q u u2 ww h hj
                    have e115 : u 115 = u2 115 := h 6 (by decide)
                    have e116 : u 116 = u2 116 := h 7 (by decide)
                    have e117 : u 117 = u2 117 := h 8 (by decide)
                    have e118 : u 118 = u2 118 := h 9 (by decide)
                    show LgJ _ _ _ _ _ _ _ _ _ _ _ _ _ _ _
                    rw [← e115, ← e116, ← e117, ← e118]
                    exact hj
                  · exact ⟨fun _ => (Chg.refl _ wr).drew, fun e => absurd e (by omega), fun e => absurd e (by omega), fun e => absurd e (by omega), fun e => absurd e (by omega)⟩
                  · refine ⟨?_, ?_, ?_, ?_, ?_, ?_, ?_, ?_, ?_, ?_, trivial⟩
                    · show StepRQ _ _ _ _ _ _ _ _ _ -- 109
                      unfold StepRQ
                      intro qn hq u w_ hj hd K hK
                      clear hd
                      go_simp
                      exact hK.out (.slice la m lc) rfl
                    · show StepRQ _ _ _ _ _ _ _ _ _ -- 110
                      unfold StepRQ
                      intro qn hq u w_ hj hd K hK
                      clear hd
                      go_simp
                      exact hK.out (.slice (some ⟨ga, 0, none⟩) j hc) rfl
                    · show StepRQ _ _ _ _ _ _ _ _ _ -- 111
                      unfold StepRQ
                      intro qn hq u w_ hj hd K hK
                      clear hd
                      go_simp
                      exact hK.out (.int .i64 (m : Int)) rfl
                    · show StepRQ _ _ _ _ _ _ _ _ _ -- 112
                      unfold StepRQ
                      intro qn hq u w_ hj hd K hK
                      have h110 : u 110 = .slice (some ⟨ga, 0, none⟩) j hc := hd.get 1 (by kernel_rfl)
                      have h111 : u 111 = .int .i64 (m : Int) := hd.get 2 (by kernel_rfl)
                      clear hd
                      simp only [h110, h111] at hK
                      go_simp
                      exact hK.out (.pointer (some ⟨ga, m, none⟩)) rfl
                    · show StepRQ _ _ _ _ _ _ _ _ _ -- 113
                      unfold StepRQ
                      intro qn hq u w_ hj hd K hK
                      have h112 : u 112 = .pointer (some ⟨ga, m, none⟩) := hd.get 3 (by kernel_rfl)
                      clear hd
                      simp only [h112] at hK
                      have x0 := cell_chg kh (hj.1 hq)
                      clear hj
                      go_simp
                      exact hK.out _ rfl
                    · show StepRQ _ _ _ _ _ _ _ _ _ -- 114
                      unfold StepRQ
                      intro qn hq u w_ hj hd K hK
                      clear hd
                      go_simp
                      exact hK.out (.int .i64 (m : Int)) rfl
                    · show StepWQ _ _ _ _ _ _ _ _ _ -- 115
                      unfold StepWQ
                      intro u w_ hj hd K hK
                      have h114 : u 114 = .int .i64 (m : Int) := hd.get 5 (by kernel_rfl)
                      clear hd
                      simp only [h114] at hK
                      have HN9 : Hid _ := hj
                      clear hj
                      go_simp
                      go_at_call 15
                      refine (HTL.out w_).mono ?_
                      rintro z w2 ⟨p9, rfl, hp9, c2⟩
                      obtain ⟨ta, tc, hpe⟩ := byO_form hp9
                      rw [List.length_replicate] at hpe
                      subst hpe
                      exact hK.out _ w2 ⟨fun _ => chg_then (HN9.out.1 (by omega)) c2, fun _ => ⟨ta, tc, rfl, owns_base hp9 (Nat.le_trans HLG.out.chg.size (HN9.out.1 (by omega)).size)⟩, fun e => absurd e (by omega), fun e => absurd e (by omega), fun e => absurd e (by omega)⟩ trivial
                    · show StepWQ _ _ _ _ _ _ _ _ _ -- 116
                      unfold StepWQ
                      intro u w_ hj hd K hK
                      have h113 : u 113 = .slice (some ⟨g, 0, none⟩) n1 c1 := hd.get 4 (by kernel_rfl)
                      clear hd
                      obtain ⟨h1, h2, _⟩ := hj
                      obtain ⟨ta, tc, e115, hby⟩ := h2 rfl
                      have hc9 := h1 (by omega)
                      have hLg := HLG.out.new hc9
                      have hvk : ByO w_ w0.heap.size (.slice (some ⟨g, 0, none⟩) n1 c1) (List.replicate (N m) (mkB m)) := hLg.pcs m _ HVJ.out
                      have hoo : w_.ownsRow w0.heap.size 5 1 (.slice (some ⟨g, 0, none⟩) n1 c1) n1 ((nums (List.replicate (N m) (mkB m))).map (Value.int .u8)) := by
                        unfold ByO at hvk
                        rw [List.length_replicate, HNN.out] at hvk
                        rw [HNN.out]
                        exact hvk
                      refine step_append_keep (a := ⟨_, []⟩) (by rfl) (.tmp 113) (.tmp 115) 26 (by rfl) w0.heap.size 5 iu (.int .u8 0) 1 Tryd.underlying26 hiu hu0 hu1 hu2 rfl (.slice (some ⟨g, 0, none⟩) n1 c1) n1 ((nums (List.replicate (N m) (mkB m))).map (Value.int .u8)) (by exact h113) ta 70 tc (by exact e115) ((nums (List.replicate 70 (tmB m))).map (Value.int .u8)) hoo (byO_row hby).1.src (oneB _) (by unfold maxLen; omega) (by omega) hLg.chg.size ?_
                      intro v2 w2 ho2 hg2 hm2 hk2
                      have hl2 : ByO w2 w0.heap.size v2 (List.replicate (N m) (mkB m) ++ List.replicate 70 (tmB m)) := byO_app ho2
                      have hk3 : ByO w2 w0.heap.size (.slice (some ⟨g, 0, none⟩) n1 c1) (List.replicate (N m) (mkB m)) := by
                        unfold ByO
                        rw [List.length_replicate, HNN.out]
                        rw [HNN.out] at hk2
                        exact hk2
                      have hA := hLg.app HVJ.out hl2 hg2 hm2 hk3
                      obtain ⟨l1, l2, hl3⟩ := form1 ho2
                      subst hl3
                      exact hK.out _ w2 ⟨fun e => absurd e (by omega), fun e => absurd e (by omega), fun _ => ⟨l1, l2, rfl, hA.1, hA.2⟩, fun e => absurd e (by omega), fun e => absurd e (by omega)⟩ trivial
                    · show StepWQ _ _ _ _ _ _ _ _ _ -- 117
                      unfold StepWQ
                      intro u w_ hj hd K hK
                      clear hd
                      obtain ⟨_, _, h3, _⟩ := hj
                      obtain ⟨l1, l2, e116, hLg, hNw⟩ := h3 rfl
                      have c9 := chg_one w_ (.cells #[.slice l1 (n1 + 70) l2] 26)
                      have HLG9 : Hid _ := hLg.new c9
                      have HNW9 : Hid _ := hNw.new c9
                      have HFR : Hid _ := from_v w_ (.slice l1 (n1 + 70) l2) 26
                      clear hLg hNw h3 c9
                      simp only [e116] at hK ⊢
                      go_simp
                      exact hK.out _ _ ⟨fun e => absurd e (by omega), fun e => absurd e (by omega), fun e => absurd e (by omega), fun _ => ⟨l1, l2, _, rfl, HLG9.out, HNW9.out, HFR.out⟩, fun e => absurd e (by omega)⟩ trivial
                    · show StepWQ _ _ _ _ _ _ _ _ _ -- 118
                      unfold StepWQ
                      intro u w_ hj hd K hK
                      have h109 : u 109 = .slice la m lc := hd.get 0 (by kernel_rfl)
                      clear hd
                      obtain ⟨_, _, _, h4, _⟩ := hj
                      obtain ⟨l1, l2, bb, e117, hLg, hNw, hfr⟩ := h4 rfl
                      have hoo : w_.ownsRow w0.heap.size 26 1 (.slice la m lc) m ls := by
                        have := hLg.lown
                        unfold LsO at this
                        rw [hLg.llen] at this
                        exact this
                      refine step_append_moved (a := ⟨_, []⟩) (by rfl) (.tmp 109) (.tmp 117) 40 (by rfl) w0.heap.size 26 jb (.slice none 0 0) 1 24 Tryd.underlying40 hjb hb0 hb1 hb2 rfl (by decide) (.slice la m lc) m ls (by exact h109) (some ⟨bb, 0, none⟩) 1 1 (by exact e117) [.slice l1 (n1 + 70) l2] hoo hfr (fun y hy => by simp at hy; subst hy; rfl) (by unfold maxLen; omega) (by omega) hLg.chg.size ?_
                      intro v2 w2 ho2 hg2 hm2
                      have hP9 := hLg.push hNw ho2 hg2 hm2
                      obtain ⟨a9, d9, hv9⟩ := form1 ho2
                      subst hv9
                      exact hK.out _ w2 ⟨fun e => absurd e (by omega), fun e => absurd e (by omega), fun e => absurd e (by omega), fun e => absurd e (by omega), fun _ => ⟨a9, d9, _, rfl, hP9⟩⟩ trivial
                  · intro u w7 hj hA K hK
                    obtain ⟨_, _, _, _, h5⟩ := hj
                    obtain ⟨a9, d9, ls', e118, hP9⟩ := h5 rfl
                    have HP9 : Hid _ := hP9
                    clear h5 hP9 hA
                    simp only [e118] at hK ⊢
                    go_simp
                    refine hK.out _ _ ?_
                    clear hK e118 kh
                    go_wp2_with fail
                    refine ⟨?_, by simp [intOf]; omega⟩
                    repeat apply Exists.intro
                    refine And.intro ?_ rfl
                    exact ⟨m + 1, by omega, by go_num, ls', HP9⟩
                · obtain rfl : m = j := by omega
                  have d3 : decide ((m : Int) < (m : Int)) = false := decide_eq_false (by omega)
                  obtain ⟨lq, lc, hlv⟩ := form1 HLG.out.lown
                  rw [HLG.out.llen] at hlv
                  subst hlv
                  have HSZ0 : Hid (w0.heap.size ≤ wr.heap.size) := HLG.out.chg.size
                  generalize wr = we at *
                  go_wp2_with fail
                  go_loopw [122] (fun i wr => ∃ p : Nat, p ≤ m ∧ i = .int .i64 (p : Int) ∧ Hid (Chg (fun _ => False) we wr)) (fun i _ => m - (intOf i).toNat)
                  case atStart => exact ⟨0, by omega, rfl, Chg.refl _ _⟩
                  case round =>
                    obtain ⟨p, hp, rfl, HC⟩ := hrel
                    have hpi : (p : Int) ≤ (m : Int) := by omega
                    by_cases hlt : p < m
                    · have d4 : decide ((p : Int) < (m : Int)) = true := decide_eq_true (by omega)
                      have d4' : decide (p < m) = true := decide_eq_true hlt
                      have hpi2 : (p : Int) < (m : Int) := by omega
                      have hLr := HLG.out.new HC.out
                      obtain ⟨v, hv⟩ : ∃ v, vs[p]? = some v := ⟨vs[p]'(by rw [HVL.out]; exact hlt), List.getElem?_eq_getElem _⟩
                      obtain ⟨l, hll⟩ : ∃ l, ls[p]? = some l := ⟨ls[p]'(by rw [HLG.out.llen]; exact hlt), List.getElem?_eq_getElem _⟩
                      obtain ⟨g, n1, c1, rfl, hNn, hn1, hn6⟩ := HNB.out p v hv
                      obtain ⟨ga, ca, e1, _, kh⟩ := lso_at hLr.own hv
                      simp only [Value.slice.injEq] at e1
                      have e11 := e1.1
                      subst e11
                      clear e1
                      obtain ⟨gl, ca2, e2, _, kl⟩ := lso_at hLr.lown hll
                      simp only [Value.slice.injEq] at e2
                      have e21 := e2.1
                      subst e21
                      clear e2
                      have hbv : ByO wr w0.heap.size (.slice (some ⟨g, 0, none⟩) n1 c1) (List.replicate n1 (mkB p)) := by have h8 : ByO wr w0.heap.size (.slice (some ⟨g, 0, none⟩) n1 c1) (List.replicate (N p) (mkB p)) := hLr.pcs p _ hv; rw [hNn] at h8; exact h8
                      have hbl : ByO wr w0.heap.size l (List.replicate n1 (mkB p) ++ List.replicate 70 (tmB p)) := by have h8 : ByO wr w0.heap.size l (List.replicate (N p) (mkB p) ++ List.replicate 70 (tmB p)) := hLr.lpc p _ hll; rw [hNn] at h8; exact h8
                      have hbl2 := hbl
                      unfold ByO at hbl2
                      rw [show (List.replicate n1 (mkB p) ++ List.replicate 70 (tmB p)).length = n1 + 70 by simp] at hbl2
                      obtain ⟨h9, cl, rfl, hcl, _, _, _, _, _⟩ := own_some hbl2 (by omega)
                      have HPt : Hid (∀ t, t < n1 → wr.cell? ⟨g, t, none⟩ = some (.int .u8 ((mkB p : Nat) : Int))) := fun t ht => by
                        have := hbv
                        unfold ByO at this
                        rw [List.length_replicate] at this
                        rw [this.cellAt t (by omega), ins_at _ _ _ (by simp [nums]; exact ht)]
                        simp [nums]
                      have HQt : Hid (∀ t, t < n1 → wr.cell? ⟨h9, t, none⟩ = some (.int .u8 ((mkB p : Nat) : Int))) := fun t ht => by
                        rw [hbl2.cellAt t (by omega), ins_at _ _ _ (by simp [nums]; omega)]
                        simp [nums, List.getElem_append_left, ht]
                      obtain ⟨ST, hST⟩ : ∃ s, strOfNums (nums (List.replicate 70 (tmB p))) = s := ⟨_, rfl⟩
                      have HST : Hid (strOfNums (nums (List.replicate 70 (tmB p))) = ST) := hST
                      have hne : ¬ cl = n1 := by omega
                      have HR : Hid (Row8 wr (some ⟨h9, n1, none⟩) 70 (cl - n1) (nums (List.replicate 70 (tmB p)))) := by
                        have h8 := row8_cut (byO_row hbl).1 hcl n1 70 (cl - n1) (by omega) (fun e => by omega)
                        rw [if_neg hne, nums_cut] at h8
                        simp only [Option.map_some, addk, Nat.zero_add] at h8
                        rw [show ((List.replicate n1 (mkB p) ++ List.replicate 70 (tmB p)).drop n1).take 70 = List.replicate 70 (tmB p) by rw [List.drop_left' (by simp)]; simp] at h8
                        exact h8
                      have HCV : Hid (∀ ww, Chg (fun _ => False) wr ww → (convert 26 9 (.slice (some ⟨h9, n1, none⟩) 70 (cl - n1))).run Tryd.prog ww = .ok (.string ST) ww) := fun ww hw => by rw [← hST]; exact Bk.conv8_here (Bk.row8_chg HR.out hw)
                      have HTL : Hid (∀ ww, Calls Tryd.prog 15 #[.int .i64 (p : Int)] ww fun e w' => ∃ p', e = .returned p' ∧ ByO w' ww.heap.size p' (List.replicate 70 (tmB p)) ∧ Chg (fun _ => False) ww w') := fun ww => tail_any p ww (by omega)
                      have HSZ : Hid (w0.heap.size ≤ wr.heap.size) := Nat.le_trans HSZ0.out HC.out.size
                      have hw8 : IntKind.u8.wrap (p : Int) = ((mkB p : Nat) : Int) := by unfold mkB; simp [IntKind.wrap, IntKind.signed, IntKind.bits]
                      have hn6i : (n1 : Int) ≤ 6 := by omega
                      have hcli : (n1 : Int) + 70 ≤ (cl : Int) := by omega
                      clear hbv hbl hbl2 hLr hv hll hNn hST HR
                      go_wp2_with fail
                      go_loop [130] (fun i => ∃ t : Nat, t ≤ n1 ∧ i = .int .i64 (t : Int)) (fun i => n1 - (intOf i).toNat)
                      case atStart => exact ⟨0, by omega, rfl⟩
                      case round =>
                        obtain ⟨t, ht, rfl⟩ := hrel
                        have hti : (t : Int) ≤ (n1 : Int) := by omega
                        by_cases htl : t < n1
                        · have d5 : decide ((t : Int) < (n1 : Int)) = true := decide_eq_true (by omega)
                          have d5' : decide (t < n1) = true := decide_eq_true htl
                          have hti2 : (t : Int) < (n1 : Int) := by omega
                          have e1 := HPt.out t htl
                          have e2 := HQt.out t htl
                          go_wp2
                          go_round
                          case rel => exact ⟨t + 1, by omega, by go_num⟩
                          case measure => simp [intOf]; omega
                        · have htn : n1 = t := by omega
                          subst htn
                          have d5 : decide ((n1 : Int) < (n1 : Int)) = false := decide_eq_false (by omega)
                          clear HPt HQt
                          go_upto_region 44 with fail
                          refine wp_region_phaseQ (mk := fun u => #[_, _, _, _, _, _, _, _, _, _, _, _, _, _, _, _, _, _, _, _, _, _, _, _, _, _, _, _, _, _, _, _, _, _, _, _, _, _, _, _, _, _, _, _, _, _, _, _, _, _, _, _, _, _, _, _, _, _, _, _, _, _, _, _, _, _, _, _, _, _, _, _, _, _, _, _, _, _, _, _, _, _, _, _, _, _, _, _, _, _, _, _, _, _, _, _, _, _, _, _, _, _, _, _, _, _, _, _, _, _, _, _, _, _, _, _, _, _, _, _, _, _, _, _, _, _, _, _, _, _, _, _, _, _, _, _, _, _, _, _, _, _, _, _, _, _, _, _, _, _, _, _, _, _, _, _, u 156, u 157, u 158, u 159, u 160, u 161, u 162, u 163, u 164, u 165, u 166, u 167, u 168, u 169, _, _, _]) (G := lookG [(156, .slice (some ⟨gl, 0, none⟩) m lc), (157, .int .i64 (p : Int)), (158, .pointer (some ⟨gl, p, none⟩)), (159, .slice (some ⟨h9, 0, none⟩) (n1 + 70) cl), (160, .slice (some ⟨ga, 0, none⟩) m hc), (161, .int .i64 (p : Int)), (162, .pointer (some ⟨ga, p, none⟩)), (163, .slice (some ⟨g, 0, none⟩) n1 c1), (164, .int .i64 (n1 : Int)), (165, .slice (some ⟨h9, n1, none⟩) 70 (cl - n1)), (166, .string ST), (167, .int .i64 (p : Int)), (169, .string ST)]) (J := fun q u ww => TjJ w0 wr p q (u 168) ww) [12, 13] (fun i =>  2) ([]) (fun slot => match slot with | 156 => u156 | 157 => u157 | 158 => u158 | 159 => u159 | 160 => u160 | 161 => u161 | 162 => u162 | 163 => u163 | 164 => u164 | 165 => u165 | 166 => u166 | 167 => u167 | 168 => u168 | 169 => u169 | _ => undef) rfl (by kernel_rfl) 14 _ rfl rfl (by kernel_rfl) (by kernel_rfl) (by kernel_rfl) (by decide) ?_ ?_ ?_ (by kernel_rfl) ?_ ?_
                          · repeat (refine ⟨fun _ _ => rfl, ?_⟩)
                            exact trivial
                          · intro q u u2 ww h hj
                            have e168 : u 168 = u2 168 := h 12 (by decide)
                            show TjJ _ _ _ _ _ _
                            rw [← e168]
                            exact hj
                          · exact ⟨(Chg.refl _ wr).drew, fun e => absurd e (by omega)⟩
                          · refine ⟨?_, ?_, ?_, ?_, ?_, ?_, ?_, ?_, ?_, ?_, ?_, ?_, ?_, ?_, trivial⟩
                            · show StepRQ _ _ _ _ _ _ _ _ _ -- 156
                              unfold StepRQ
                              intro qn hq u w_ hj hd K hK
                              clear hd
                              go_simp
                              exact hK.out (.slice (some ⟨gl, 0, none⟩) m lc) rfl
                            · show StepRQ _ _ _ _ _ _ _ _ _ -- 157
                              unfold StepRQ
                              intro qn hq u w_ hj hd K hK
                              clear hd
                              go_simp
                              exact hK.out (.int .i64 (p : Int)) rfl
                            · show StepRQ _ _ _ _ _ _ _ _ _ -- 158
                              unfold StepRQ
                              intro qn hq u w_ hj hd K hK
                              have h156 : u 156 = .slice (some ⟨gl, 0, none⟩) m lc := hd.get 0 (by kernel_rfl)
                              have h157 : u 157 = .int .i64 (p : Int) := hd.get 1 (by kernel_rfl)
                              clear hd
                              simp only [h156, h157] at hK
                              go_simp
                              exact hK.out (.pointer (some ⟨gl, p, none⟩)) rfl
                            · show StepRQ _ _ _ _ _ _ _ _ _ -- 159
                              unfold StepRQ
                              intro qn hq u w_ hj hd K hK
                              have h158 : u 158 = .pointer (some ⟨gl, p, none⟩) := hd.get 2 (by kernel_rfl)
                              clear hd
                              simp only [h158] at hK
                              have x0 := cell_chg kl hj.1
                              clear hj
                              go_simp
                              exact hK.out _ rfl
                            · show StepRQ _ _ _ _ _ _ _ _ _ -- 160
                              unfold StepRQ
                              intro qn hq u w_ hj hd K hK
                              clear hd
                              go_simp
                              exact hK.out (.slice (some ⟨ga, 0, none⟩) m hc) rfl
                            · show StepRQ _ _ _ _ _ _ _ _ _ -- 161
                              unfold StepRQ
                              intro qn hq u w_ hj hd K hK
                              clear hd
                              go_simp
                              exact hK.out (.int .i64 (p : Int)) rfl
                            · show StepRQ _ _ _ _ _ _ _ _ _ -- 162
                              unfold StepRQ
                              intro qn hq u w_ hj hd K hK
                              have h160 : u 160 = .slice (some ⟨ga, 0, none⟩) m hc := hd.get 4 (by kernel_rfl)
                              have h161 : u 161 = .int .i64 (p : Int) := hd.get 5 (by kernel_rfl)
                              clear hd
                              simp only [h160, h161] at hK
                              go_simp
                              exact hK.out (.pointer (some ⟨ga, p, none⟩)) rfl
                            · show StepRQ _ _ _ _ _ _ _ _ _ -- 163
                              unfold StepRQ
                              intro qn hq u w_ hj hd K hK
                              have h162 : u 162 = .pointer (some ⟨ga, p, none⟩) := hd.get 6 (by kernel_rfl)
                              clear hd
                              simp only [h162] at hK
                              have x0 := cell_chg kh hj.1
                              clear hj
                              go_simp
                              exact hK.out _ rfl
                            · show StepRQ _ _ _ _ _ _ _ _ _ -- 164
                              unfold StepRQ
                              intro qn hq u w_ hj hd K hK
                              have h163 : u 163 = .slice (some ⟨g, 0, none⟩) n1 c1 := hd.get 7 (by kernel_rfl)
                              clear hd
                              simp only [h163] at hK
                              go_simp
                              exact hK.out (.int .i64 (n1 : Int)) rfl
                            · show StepRQ _ _ _ _ _ _ _ _ _ -- 165
                              unfold StepRQ
                              intro qn hq u w_ hj hd K hK
                              have h159 : u 159 = .slice (some ⟨h9, 0, none⟩) (n1 + 70) cl := hd.get 3 (by kernel_rfl)
                              have h164 : u 164 = .int .i64 (n1 : Int) := hd.get 8 (by kernel_rfl)
                              clear hd
                              simp only [h159, h164] at hK
                              clear hj
                              have hle9 : (n1 : Int) ≤ (n1 : Int) + 70 := by omega
                              go_simp
                              exact hK.out _ rfl
                            · show StepRQ _ _ _ _ _ _ _ _ _ -- 166
                              unfold StepRQ
                              intro qn hq u w_ hj hd K hK
                              have h165 : u 165 = .slice (some ⟨h9, n1, none⟩) 70 (cl - n1) := hd.get 9 (by kernel_rfl)
                              clear hd
                              simp only [h165] at hK
                              have x0 := HCV.out w_ hj.1
                              clear hj
                              go_simp
                              exact hK.out _ rfl
                            · show StepRQ _ _ _ _ _ _ _ _ _ -- 167
                              unfold StepRQ
                              intro qn hq u w_ hj hd K hK
                              clear hd
                              go_simp
                              exact hK.out (.int .i64 (p : Int)) rfl
                            · show StepWQ _ _ _ _ _ _ _ _ _ -- 168
                              unfold StepWQ
                              intro u w_ hj hd K hK
                              have h167 : u 167 = .int .i64 (p : Int) := hd.get 11 (by kernel_rfl)
                              clear hd
                              simp only [h167] at hK
                              have HN9 : Hid _ := hj
                              clear hj
                              go_simp
                              go_at_call 15
                              refine (HTL.out w_).mono ?_
                              rintro z w2 ⟨p9, rfl, hp9, c2⟩
                              obtain ⟨ta, tc, hpe⟩ := byO_form hp9
                              rw [List.length_replicate] at hpe
                              subst hpe
                              exact hK.out _ w2 ⟨chg_then HN9.out.1 c2, fun _ => ⟨ta, tc, rfl, owns_base hp9 (Nat.le_trans HSZ.out HN9.out.1.size)⟩⟩ trivial
                            · show StepWQ _ _ _ _ _ _ _ _ _ -- 169
                              unfold StepWQ
                              intro u w_ hj hd K hK
                              clear hd
                              obtain ⟨hc9, h2⟩ := hj
                              obtain ⟨ta, tc, e168, hby⟩ := h2 rfl
                              have x0 : (convert 26 9 (.slice ta 70 tc)).run Tryd.prog w_ = .ok (.string ST) w_ := by rw [← HST.out]; exact Bk.conv8_here (byO_row hby).1
                              clear h2 hby
                              simp only [e168] at hK ⊢
                              go_simp
                              exact hK.out _ _ ⟨hc9, fun e => absurd e (by omega)⟩ rfl
                          · intro u w7 hj hA K hK
                            have hc9 := hj.1
                            have h166 : u 166 = .string ST := hA.at 166 (by kernel_rfl)
                            have h169 : u 169 = .string ST := hA.at 169 (by kernel_rfl)
                            have HCE : Hid (Chg (fun _ => False) we w7) := chg_then HC.out hc9
                            clear hj hA hc9
                            simp only [h166, h169] at hK ⊢
                            go_simp
                            refine hK.out _ _ ?_
                            clear hK h166 h169 kh kl
                            go_wp2_with fail
                            exact ⟨⟨_, _, _, _, ⟨p + 1, by omega, by go_num⟩, rfl, rfl, rfl, rfl⟩, by simp [intOf]; omega⟩
                    · obtain rfl : p = m := by omega
                      have d4 : decide ((p : Int) < (p : Int)) = false := decide_eq_false (by omega)
                      have hCe := chg_then HLG.out.chg HC.out
                      have HKN : Hid _ := known17_any S wr (S.keep HT.out hCe)
                      have HCE : Hid (Chg (fun _ => False) w0 wr) := hCe
                      clear hCe
                      go_wp2_with fail
                      refine Calls.mono HKN.out ?_
                      rintro z w9 ⟨rfl, c9⟩
                      have HCF : Hid (Chg (fun _ => False) w0 w9) := chg_then HCE.out c9
                      clear c9 HKN
                      go_wp2
                      go_ret
                      exact ⟨rfl, HCF.out⟩
end Go.Proofs.YtannepoclpmedaaDoor
