/- The walk of HeadAgain; of no statement by itself. -/
import Derived.Test.YtkncbanodpfccaaDoorHde
namespace Go.Proofs.YtkncbanodpfccaaDoor
open Go.RowKit
open St12
set_option linter.unusedVariables false
set_option linter.unusedSimpArgs false
theorem putAll_mem : ∀ {l : List Flt} {f : Flt}, (Hd21.putAll l).2 = 0 → f ∈ l → f.ps.length ≤ (Hd21.putAll l).1.length
  | g :: r, f, h, hf => by
    obtain ⟨a, b, c, d⟩ := Hd21.putAll_ok h
    rw [d, List.length_append]
    rcases List.mem_cons.1 hf with rfl | hf
    · rw [Cn20.put_ok b]
      simp only [List.length_append]
      omega
    · have := putAll_mem c hf
      omega
  | [], f, h, hf => by cases hf
theorem putE_mem {h : Hed} {pad : Int} (e : Hd21.putE h pad = 0) {f : Flt} (hf : f ∈ h.fs) : f.ps.length ≤ 1018 := by
  obtain ⟨_, _, k3, _, _, k6, k7⟩ := Hd21.putE_0 e
  have h1 := putAll_mem k6 hf
  have h2 : (Hd21.room0 h).length = (Hd21.told h.pk ++ Hd21.told h.sz).length + (Hd21.putAll h.fs).1.length := by unfold Hd21.room0; rw [List.length_append]
  omega
variable {Tab : World → Prop}
set_option maxHeartbeats 16000000 in
set_option maxRecDepth 100000 in
theorem again21_any (S : HeadSpec Tab) (ba : Option Addr) (n bc : Nat) (bs : List Nat) (w0 : World) (hT : Tab w0) (hb : Row8 w0 ba n bc (nums bs)) (hd : Rc.Dig bs) (hbc : n ≤ bc) (hn : n ≤ 140737488351232) : Calls Tryd.prog 4 #[.slice ba n bc] w0 fun e w' => e = .returned (.bool true) ∧ Chg (fun _ => False) w0 w' := by
  have HT : Hid (Tab w0) := hT
  have HB : Hid (Row8 w0 ba n bc (nums bs)) := hb
  have HD : Hid (Rc.Dig bs) := hd
  have hbl : bs.length = n := by have h9 := hb.1; rw [nums_len] at h9; exact h9
  have HBL : Hid (bs.length = n) := hbl
  have hni : (n : Int) ≤ 140737488351232 := by omega
  have HJ : Hid _ := joined21_any ba none n 0 bc 0 bs [] w0 hb ⟨rfl, .inl ⟨rfl, rfl, rfl⟩⟩ (by omega)
  rw [List.append_nil, Nat.add_zero] at HJ
  have HK : Hid (∀ ww, Chg (fun _ => False) w0 ww → Calls Tryd.prog 9 #[] ww fun e w' => e = .returned (.bool true) ∧ Chg (fun _ => False) ww w') := fun ww hc => fixed21_any S ww (S.keep HT.out hc)
  clear hT hb hd hbl
  go_enter Tryd.func4, Tryd.ntmps4
  go_wp2_with fail
  refine Calls.mono HJ.out ?_
  rintro z w1 ⟨ja, jc, rfl, hj, c1⟩
  obtain ⟨hrow, _, hcap⟩ := byO_row hj
  have HC1 : Hid (Chg (fun _ => False) w0 w1) := c1
  have HG : Hid _ := S.get ja n jc bs w1 (S.keep HT.out c1) hrow HD.out hcap (by omega)
  unfold hdv at HG
  have hback := fun h => Hd21.get_backH HD.out h
  obtain ⟨⟨pk, sz, fs, by_⟩, er, hGe⟩ : ∃ h e, Hd21.getH bs = (h, e) := ⟨_, _, rfl⟩
  rw [hGe] at HG hback
  simp only at HG hback
  have HBK : Hid _ := hback
  clear hj c1 hrow hcap hGe hback HJ
  go_wp2_with fail
  refine Calls.mono HG.out ?_
  rintro z w2 ⟨fa, fn, fc, l, rfl, hof, _, hln, hfc, hmf, c2⟩
  have cC := chg_one w2 (.cells #[.int .i64 pk, .int .i64 sz, .slice fa fn fc, .int .i64 by_] 24)
  have bC := heap_alloc_last w2 (.cells #[.int .i64 pk, .int .i64 sz, .slice fa fn fc, .int .i64 by_] 24)
  have HC3 : Hid (Chg (fun _ => False) w0 (w2.alloc (.cells #[.int .i64 pk, .int .i64 sz, .slice fa fn fc, .int .i64 by_] 24))) := chg_then HC1.out (chg_then c2 cC)
  have HF3 : Hid (FlL (w2.alloc (.cells #[.int .i64 pk, .int .i64 sz, .slice fa fn fc, .int .i64 by_] 24)) fa l) := hof.L.new cC
  have HB3 : Hid ((w2.alloc (.cells #[.int .i64 pk, .int .i64 sz, .slice fa fn fc, .int .i64 by_] 24)).heap[w2.heap.size]? = some (.cells #[.int .i64 pk, .int .i64 sz, .slice fa fn fc, .int .i64 by_] 24 (0, 0))) := bC
  have HLN : Hid (l.length = fn) := hln
  have HMF : Hid (l.map FlV.f = fs) := hmf
  clear hof c2 cC bC hln hmf HG HC1
  go_upto_region 2 with fail
  generalize w2.alloc (.cells #[.int .i64 pk, .int .i64 sz, .slice fa fn fc, .int .i64 by_] 24) = W3 at *
  generalize w2.heap.size = xb at *
  go_wp2_with fail
  refine Calls.mono (HK.out W3 HC3.out) ?_
  rintro z w4 ⟨rfl, c4⟩
  have HC4 : Hid (Chg (fun _ => False) w0 w4) := chg_then HC3.out c4
  have HF4 : Hid (FlL w4 fa l) := HF3.out.new c4
  obtain ⟨x0, x1, x2, x3⟩ := cells4h (blk_keep HB3.out c4 (fun f => f))
  clear c4 HC3 HF3 HB3
  by_cases her : er = 0
  · subst her
    obtain ⟨p, k1, k2, k3, k4, k5, k6, k7, k8, k9, k10⟩ := HBK.out rfl
    try simp only at k1
    obtain ⟨SZ, hSZ⟩ : ∃ SZ, Hd21.size bs = SZ := ⟨_, rfl⟩
    rw [hSZ] at k1 k2 k4 k5 k9
    subst k1
    obtain ⟨j1, j2, _, j4, j5, j6, _⟩ := Hd21.putE_0 k3
    try simp only at j1 j2 j4 j5 k6 k7
    have hfn4 : fn ≤ 4 := by
      have h1 := congrArg List.length HMF.out
      rw [List.length_map, HLN.out] at h1
      omega
    have hxn : ∀ (k : Nat) (x : FlV), l[k]? = some x → x.n ≤ 1048576 := fun k x hk => by
      have h1 : x.f ∈ fs := by rw [← HMF.out]; exact List.mem_map.2 ⟨x, List.mem_of_getElem? hk, rfl⟩
      have h2 := putE_mem k3 h1
      have h3 := (HF4.out k x hk).1.len
      simp only [FlV.f] at h2
      omega
    have hHE : (⟨pk, sz, l.map FlV.f, (SZ : Int)⟩ : Hed) = ⟨pk, sz, fs, (SZ : Int)⟩ := by rw [HMF.out]
    have HP1 : Hid _ := S.put pk sz (SZ : Int) 0 fa fn fc l w4 (S.keep HT.out HC4.out) (by unfold I64; omega) (by unfold I64; omega) (by unfold I64; omega) (by unfold I64; omega) HF4.out HLN.out hfc (by omega) hxn
    have HP2 : Hid (∀ ww, Chg (fun _ => False) w4 ww → Calls Tryd.prog 8 #[hdv pk sz (.slice fa fn fc) (SZ : Int), .int .i64 (p : Int)] ww fun e w' => ∃ ov, e = .returned (.tuple #[ov, .int .i64 (Hd21.putH ⟨pk, sz, l.map FlV.f, (SZ : Int)⟩ (p : Int)).2]) ∧ ByO w' ww.heap.size ov (Hd21.putH ⟨pk, sz, l.map FlV.f, (SZ : Int)⟩ (p : Int)).1 ∧ Chg (fun _ => False) ww w') := fun ww hc => S.put pk sz (SZ : Int) (p : Int) fa fn fc l ww (S.keep HT.out (chg_then HC4.out hc)) (by unfold I64; omega) (by unfold I64; omega) (by unfold I64; omega) (by unfold I64; omega) (HF4.out.new hc) HLN.out hfc (by omega) hxn
    rw [hHE] at HP1 HP2
    rw [k5] at HP2
    have he0 := (Hd21.putH_e ⟨pk, sz, fs, (SZ : Int)⟩ 0).1
    rw [k3] at he0
    obtain ⟨Pl, hPl⟩ : ∃ Pl, (Hd21.putH ⟨pk, sz, fs, (SZ : Int)⟩ 0).1 = Pl := ⟨_, rfl⟩
    rw [hPl] at k4 HP1
    rw [he0] at HP1
    unfold hdv at HP1 HP2
    simp only at HP2
    obtain ⟨LL, hLL⟩ : ∃ LL, Pl.length = LL := ⟨_, rfl⟩
    have HLL : Hid (Pl.length = LL) := hLL
    rw [hLL] at k4
    obtain ⟨D, hDD⟩ : ∃ D, 4 * p = D := ⟨_, rfl⟩
    have e1 : (SZ : Int) - (LL : Int) = (D : Int) := by omega
    have e2 : (D : Int) % 4 = 0 := by omega
    have e3 : (D : Int) / 4 = (p : Int) := by omega
    have e4 : decide ((SZ : Int) < (LL : Int)) = false := decide_eq_false (by omega)
    have e4' : decide (SZ < LL) = false := decide_eq_false (by omega)
    have e5 : decide ((n : Int) < (SZ : Int)) = false := decide_eq_false (by rw [HBL.out] at k2; omega)
    have e5' : decide (n < SZ) = false := decide_eq_false (by rw [HBL.out] at k2; omega)
    have hSn : SZ ≤ n := by rw [HBL.out] at k2; exact k2
    have hSi : (SZ : Int) ≤ 1024 := by omega
    have hLi : (LL : Int) ≤ 1024 := by omega
    have hDi : (D : Int) ≤ 1024 := by omega
    have hpi : (p : Int) ≤ 1024 := by omega
    have HSN : Hid (SZ ≤ n) := hSn
    clear k2 k3 k4 k5 k6 k7 k8 k9 k10 j1 j2 j4 j5 j6 hxn hHE he0 hPl hLL hDD hSZ HBK hSn
    go_wp2_with fail
    refine Calls.mono HP1.out ?_
    rintro z w5 ⟨ov, rfl, ho, c5⟩
    obtain ⟨oa, oc, rfl⟩ := byO_form ho
    rw [HLL.out]
    replace x0 := cell_chg x0 c5
    replace x1 := cell_chg x1 c5
    replace x2 := cell_chg x2 c5
    replace x3 := cell_chg x3 c5
    have HC5 : Hid (Chg (fun _ => False) w0 w5) := chg_then HC4.out c5
    have HP3 : Hid _ := HP2.out w5 c5
    clear ho c5 HP1 HP2 HF4 HC4
    go_wp2_with fail
    refine Calls.mono HP3.out ?_
    rintro z w6 ⟨ov, rfl, ho, c6⟩
    obtain ⟨qa, qc, rfl⟩ := byO_form ho
    have hlt : (bs.take SZ).length = SZ := by rw [List.length_take, HBL.out]; have := HSN.out; omega
    rw [hlt] at ho ⊢
    replace x3 := cell_chg x3 c6
    have HC6 : Hid (Chg (fun _ => False) w0 w6) := chg_then HC5.out c6
    have hcv1 : ∀ k, (convert 25 9 (.slice qa SZ qc)).run Tryd.prog (w6.drewN k) = .ok (.string (strOfNums (nums (bs.take SZ)))) (w6.drewN k) := fun k => Bk.conv8 (byO_row ho).1 k
    have hcv2 : ∀ k, (convert 25 9 (.slice ba SZ bc)).run Tryd.prog (w6.drewN k) = .ok (.string (strOfNums (nums (bs.take SZ)))) (w6.drewN k) := fun k => Bk.conv8 (row8_take (Bk.row8_chg HB.out HC6.out) (i := SZ) HSN.out) k
    generalize strOfNums (nums (bs.take SZ)) = ST at *
    have hss : (ST.toList == ST.toList) = true := by simp
    have hcut : ∀ ww, (Instr.sliceAt 25 (.slice ba n bc) none (some (.int .i64 (SZ : Int))) none).run Tryd.prog ww = .ok (.slice ba SZ bc) ww := fun ww => run_cutZ_hi undBy elemBy sizeBy _ n bc SZ ww (by have := HSN.out; omega)
    clear ho c6 x0 x1 x2 HP3 HC5 hlt e1 e2 e3 e4 e4' e5 e5'
    go_upto_region 10 with fail
    go_quiet (fail)
    have HC9 : Hid (Chg (fun _ => False) w0 (w6.drewN nq)) := chg_then HC6.out (chg_drewN w6 nq)
    clear hcv1 hcv2 hss hcut
    go_wp2
    go_ret
    exact ⟨rfl, HC9.out⟩
  · have hne : (er != 0) = true := by simp [her]
    clear her HBK
    go_wp2
    go_ret
    exact ⟨rfl, HC4.out⟩
end Go.Proofs.YtkncbanodpfccaaDoor
