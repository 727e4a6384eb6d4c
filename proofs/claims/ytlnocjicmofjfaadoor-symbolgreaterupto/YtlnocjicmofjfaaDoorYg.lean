/- SymbolGreater's walk; of no statement by itself. -/
import Derived.Test.YtlnocjicmofjfaaDoorYn
import Derived.Test.YtlnocjicmofjfaaDoorBoundH
import Derived.BigQuiet
namespace Go.Proofs.YtlnocjicmofjfaaDoor
open Go.RowKit
open St12 Sy13
set_option linter.unusedVariables false
set_option linter.unusedSimpArgs false

variable {Win : World → Nat → Nat → Value → Nat → List Nat → Prop} {Tab : World → Prop}
theorem sizeSym : (sizeOf 33).run Tryd.prog = fun w => .ok 4 w := by kernel_rfl
theorem elemSym : Tryd.prog.elem 22 = 33 := by kernel_rfl
theorem undSym : Tryd.prog.underlying 22 = some (.slice (Tryd.prog.elem 22)) := by kernel_rfl
theorem run_cutS (ad : Option Addr) (m c k : Nat) (w : World) (hk : k ≤ c) : (Instr.sliceAt 22 (.slice ad m c) none (some (.int .i64 (k : Int))) none).run Tryd.prog w = .ok (.slice ad k c) w := by
  rw [run_sliceAt_slice w 22 _ _ _ _ undSym, run_slice_h w 22 ad m c undSym .i64 (k : Int) (by omega) (by omega), elemSym, sizeSym]
  unfold sliced
  simp [Result.andThen]
  cases ad <;> simp [addr_add0]
theorem SymL.take {w : World} {a : Option Addr} {l : List Sym} (h : SymL w a l) (k : Nat) : SymL w a (l.take k) := fun i y hi => by
  refine h i y ?_
  rw [List.getElem?_take] at hi
  split at hi
  · exact hi
  · cases hi
theorem sum_next {row : List Sym} {i : Nat} {y : Sym} (hi : row[i]? = some y) : sumS (row.take (i + 1)) = sumS (row.take i) + (sizeA y).toNat := by
  have hlt := (List.getElem?_eq_some_iff.1 hi).1
  rw [← List.take_append_getElem hlt, (List.getElem?_eq_some_iff.1 hi).2, sumS_append]
  simp [sumS]
theorem sum_le (l : List Sym) : sumS l ≤ 273 * l.length := by
  induction l with
  | nil => simp [sumS]
  | cons y l ih =>
    have := sizeA_le y
    simp only [sumS, List.length_cons]
    omega
/-- A row that goes too far. -/
theorem exp_far {n : Nat} {row : List Sym} {bs : List Nat} {s : Stt} (h : runA n [] st0 row = some (bs, s)) (hb : bs.length + 1 ≤ 4294967295) : exp n [] st0 0 (row ++ [⟨2, 0, 3, (bs.length : Int) + 1⟩, ⟨1, 5, 0, 0⟩]) = ([], row.length, 7) := by
  rw [exp_append _ 0 h]
  simp only [exp]
  rw [app_far (run_right h (by decide)) 0 (by omega), if_neg (by decide)]
  simp
theorem own_emptyS (w : World) : (w.alloc (.cells #[] 33)).ownsRow w.heap.size 33 4 (.slice (some ⟨w.heap.size, 0, none⟩) 0 0) 0 (symcs []) := World.ownsRow_lit w #[] 0 (Nat.le_refl _) (by decide) rfl
theorem from_symL {w : World} {ad : Option Addr} {c k : Nat} {l : List Sym} (h : SymL w ad l) (hk : l.length = k) (hn : ad = none → c = 0 ∧ k = 0) : From w ad k c 4 (symcs l) := by
  refine ⟨by rw [symcs_len, hk], ?_⟩
  cases ad with
  | none => exact .inl ⟨rfl, (hn rfl).2, (hn rfl).1⟩
  | some x =>
    refine .inr ⟨x, rfl, fun j u hu => ?_⟩
    have hlt : j < l.length * 4 := by have := (List.getElem?_eq_some_iff.1 hu).1; rw [symcs_len] at this; exact this
    obtain ⟨y, hy⟩ : ∃ y, l[j / 4]? = some y := ⟨l[j / 4]'(by omega), List.getElem?_eq_getElem _⟩
    obtain ⟨_, b, off, e, k0, k1, k2, k3⟩ := h (j / 4) y hy
    have hat := symcs_at l (j / 4) y hy (j % 4) (by omega)
    rw [show j / 4 * 4 + j % 4 = j by omega, hu] at hat
    simp only [Option.some.injEq] at e
    have hadd : x.add j = ⟨b, off + j, none⟩ := by
      rw [e]
      unfold Addr.add
      split
      · simp_all
      · rfl
    rw [hadd]
    have hj4 : j % 4 = 0 ∨ j % 4 = 1 ∨ j % 4 = 2 ∨ j % 4 = 3 := by omega
    rcases hj4 with h4 | h4 | h4 | h4
    · rw [h4] at hat; rw [show off + j = off + j / 4 * 4 by omega, k0]; simp [symc] at hat; rw [hat]
    · rw [h4] at hat; rw [show off + j = off + j / 4 * 4 + 1 by omega, k1]; simp [symc] at hat; rw [hat]
    · rw [h4] at hat; rw [show off + j = off + j / 4 * 4 + 2 by omega, k2]; simp [symc] at hat; rw [hat]
    · rw [h4] at hat; rw [show off + j = off + j / 4 * 4 + 3 by omega, k3]; simp [symc] at hat; rw [hat]
theorem from_sym2 (w : World) (y z : Sym) (t : TypeId) : From (w.alloc (.cells #[.int .i64 y.k, .int .u8 y.y, .int .i64 y.l, .int .i64 y.d, .int .i64 z.k, .int .u8 z.y, .int .i64 z.l, .int .i64 z.d] t)) (some ⟨w.heap.size, 0, none⟩) 2 2 4 (symcs [y, z]) := by
  refine ⟨by rw [symcs_len]; rfl, .inr ⟨_, rfl, fun j u hu => ?_⟩⟩
  have hadd : (⟨w.heap.size, 0, none⟩ : Addr).add j = ⟨w.heap.size, j, none⟩ := by unfold Addr.add; split <;> simp_all
  rw [show symcs [y, z] = symc y ++ symc z by simp [symcs]] at hu
  rw [hadd, World.cell?, heap_alloc_new]
  simpa [symc] using hu
theorem row8_take {w : World} {ad : Option Addr} {m c : Nat} {xs : List Int} (h : Row8 w ad m c xs) (hmc : m ≤ c) (k : Nat) (hk : k ≤ m) : Row8 w ad k c (xs.take k) := by
  have h9 := row8_cut h hmc 0 k c (by omega) (fun e => e)
  rw [List.drop_zero] at h9
  have e : (if c = 0 then ad else ad.map (·.add 0)) = ad := by
    split
    · rfl
    · cases ad <;> simp [addr_add0]
  rw [e] at h9
  exact h9
set_option maxHeartbeats 16000000 in
set_option maxRecDepth 100000 in
theorem greater_any (S : WinSpec Win) (T : StSpec Tab) (Y : SymSpec Win Tab) (dict more kq : Int) (ad : Option Addr) (c len : Nat) (l : List Sym) (w0 : World) (hT : Tab w0) (hL : l.length = len) (hl : SymL w0 ad l) (hle : len ≤ 1048576) (hkq : I64 kq) : Calls Tryd.prog 4 #[.int .i64 dict, .int .i64 more, .slice ad len c, .int .i64 kq] w0 fun e w' => e = .returned (.bool true) ∧ Chg (fun _ => False) w0 w' := by
  obtain ⟨iu, hiu, hu0, hu1, hu2⟩ := info_parts infoU8
  obtain ⟨iy, hiy, hy0, hy1, hy2⟩ := info_parts infoSym
  obtain ⟨n, hn⟩ : ∃ n, dictN dict = n := ⟨_, rfl⟩
  have hn1 := dictN_in dict
  rw [hn] at hn1
  have HD : Hid (∀ w, Calls Tryd.prog 8 #[.int .i64 dict] w fun e w' => e = .returned (.int .i64 (n : Int)) ∧ w' = w) := fun w => by rw [← hn]; exact lsize_q dict w
  have HR : Hid _ := right_any S T Y n hn1.1 (by omega) ad c len l w0 hT hL hl hle
  have HT : Hid (Tab w0) := hT
  obtain ⟨hna, hnb⟩ := hn1
  clear hl hL hT hn
  go_enter Tryd.func4, Tryd.ntmps4
  go_wp2_with fail
  refine (HD.out _).mono ?_
  rintro z w ⟨rfl, rfl⟩
  go_wp2_with fail
  refine Calls.mono HR.out ?_
  rintro z w1 ⟨rv, av, row, all, sf, rfl, hrun, hrow, hall, hlen, hok, c1⟩
  have HC1 : Hid (Chg (fun _ => False) w w1) := c1
  have HKN : Hid _ := known_any Y w1 (Y.new HT.out c1)
  have HRUN : Hid (runA n [] st0 row = some (all, sf)) := hrun
  have HOK : Hid (∀ y ∈ row, y.I) := hok
  have HROW : Hid (SymO w1 w.heap.size rv row) := hrow
  obtain ⟨rL, hrl⟩ : ∃ rL, row.length = rL := ⟨_, rfl⟩
  obtain ⟨aL, hal⟩ : ∃ aL, all.length = aL := ⟨_, rfl⟩
  have HRL : Hid (row.length = rL) := hrl
  have HAL : Hid (all.length = aL) := hal
  rw [hrl] at hlen
  have HBA : Hid (aL ≤ 273 * 1048576) := by have := run_bound hrun; rw [hal, hrl] at this; show _ ≤ _; omega
  obtain ⟨ra, rc, hrv, hsl, hrc⟩ := hrow.list hok
  rw [hrl] at hrv hrc
  have HSL : Hid (SymL w1 ra row) := hsl
  rw [hal] at hall
  have HALL : Hid (w1.ownsRow w.heap.size 5 1 av aL (ins .u8 (nums all))) := hall
  obtain ⟨aa, ac, hav⟩ := form1 hall
  subst hrv
  subst hav
  clear hrun hrow hall hok c1 HR HD hsl hrl hal
  go_wp2_with fail
  refine Calls.mono HKN.out ?_
  rintro z w2 ⟨rfl, c2⟩
  have HC2 : Hid (Chg (fun _ => False) w1 w2) := c2
  clear HKN c2
  obtain ⟨m2, hm2⟩ : ∃ m2, dictN more = m2 := ⟨_, rfl⟩
  have hmi := dictN_in more
  rw [hm2] at hmi
  have HD2 : Hid (∀ w, Calls Tryd.prog 8 #[.int .i64 more] w fun e w' => e = .returned (.int .i64 (m2 : Int)) ∧ w' = w) := fun w => by rw [← hm2]; exact lsize_q more w
  obtain ⟨hma, hmb⟩ := hmi
  have HT2 : Hid (Tab w2) := Y.new HT.out (chg_then HC1.out HC2.out)
  have HSL2 : Hid (SymL w2 ra row) := HSL.out.new HC2.out
  have HALL2 : Hid (w2.ownsRow w.heap.size 5 1 (.slice aa aL ac) aL (ins .u8 (nums all))) := ownsRow_keep HALL.out HC2.out (fun _ _ f => f)
  have HEX1 : Hid (∀ wx, Tab wx → SymL wx ra row → Calls Tryd.prog 14 #[.int .i64 ((n : Int) + (m2 : Int)), .slice ra rL rc] wx fun e w' => ∃ ov, e = .returned (.tuple #[ov, .int .i64 (rL : Int), .int .i64 0]) ∧ w'.ownsRow wx.heap.size 5 1 ov aL (ins .u8 (nums all)) ∧ Chg (fun _ => False) wx w') := fun wx h1 h2 => by
    have h9 := Y.expand ((n : Int) + (m2 : Int)) ra rc row wx h1 ⟨by omega, by omega⟩ h2 (by have := HRL.out; omega) (by have := HRL.out; omega)
    have h8 : expandA ((n : Int) + (m2 : Int)) row = (all, rL, 0) := by
      unfold expandA
      rw [if_neg (by omega), show ((n : Int) + (m2 : Int)).toNat = n + m2 by omega, exp_run 0 (run_greater (by omega : n ≤ n + m2) HRUN.out), HRL.out, Nat.zero_add]
    rw [h8, HRL.out, HAL.out] at h9
    exact h9
  clear hm2
  go_wp2_with fail
  refine (HD2.out _).mono ?_
  rintro z wz ⟨rfl, rfl⟩
  go_wp2_with fail
  refine (HEX1.out _ HT2.out HSL2.out).mono ?_
  rintro z w4 ⟨ov, rfl, ho, c4⟩
  obtain ⟨oa, oc, hov⟩ := form1 ho
  subst hov
  have hcv := conv_own ho
  have hcv2 := conv_own (ownsRow_keep HALL2.out c4 (fun _ _ f => f))
  have HC4 : Hid (Chg (fun _ => False) w1 w4) := chg_then HC2.out c4
  clear ho c4 HEX1 HD2 HT2 HSL2 HALL2 HC2
  obtain ⟨D, hD, hcase⟩ : ∃ D : Nat, D ≤ rL ∧ ((kq < 0 ∧ D = rL) ∨ (0 ≤ kq ∧ (rL : Int) < kq ∧ D = rL) ∨ (0 ≤ kq ∧ kq ≤ (rL : Int) ∧ kq = (D : Int))) := by
    by_cases h0 : kq < 0
    · exact ⟨rL, Nat.le_refl _, .inl ⟨h0, rfl⟩⟩
    · by_cases h1 : (rL : Int) < kq
      · exact ⟨rL, Nat.le_refl _, .inr (.inl ⟨by omega, h1, rfl⟩)⟩
      · exact ⟨kq.toNat, by omega, .inr (.inr ⟨by omega, by omega, by omega⟩)⟩
  go_upto_region 8 with fail
  go_cut [70] (fun s50 wx => ((s50 = .bool true ∧ D = rL) ∨ (s50 = .bool false ∧ kq = (D : Int))) ∧ w4 = wx)
  case first =>
    clear hcv hcv2
    rcases hcase with ⟨h0, h1⟩ | ⟨h0, h1, h2⟩ | ⟨h0, h1, h2⟩
    · have HX : Hid (D = rL) := h1
      clear h1
      go_wp2_with fail
      go_meet
      case rel => exact ⟨.inl ⟨rfl, HX.out⟩, rfl⟩
    · have hd : decide (kq < 0) = false := by simp; omega
      have HX : Hid (D = rL) := h2
      clear h2
      go_wp2_with fail
      go_meet
      case rel => exact ⟨.inl ⟨by first | rfl | (simp; omega), HX.out⟩, rfl⟩
    · have hd : decide (kq < 0) = false := by simp; omega
      have hd2 : decide ((rL : Int) < kq) = false := by simp; omega
      have HX : Hid (kq = (D : Int)) := h2
      clear h2
      go_wp2_with fail
      go_meet
      case rel => exact ⟨.inr ⟨by first | rfl | (simp; omega), HX.out⟩, rfl⟩
  case rest =>
    clear hcase hcv hcv2
    obtain ⟨hcase, rfl⟩ := hcut
    go_upto_if 70 with fail
    go_cut [3] (fun s1_ wx => s1_ = .int .i64 (D : Int) ∧ w4 = wx)
    case first =>
      rcases hcase with ⟨rfl, h1⟩ | ⟨rfl, h1⟩
      · subst h1
        go_wp2_with fail
        go_meet
        case rel => exact ⟨rfl, rfl⟩
      · subst h1
        go_wp2_with fail
        go_meet
        case rel => exact ⟨rfl, rfl⟩
    case rest =>
      clear hcase
      obtain ⟨rfl, rfl⟩ := hcut
      have hDi : (D : Int) ≤ (rL : Int) := by omega
      have hrLi : (rL : Int) ≤ (rc : Int) := by omega
      have hcut : ∀ ww : World, (Instr.sliceAt 22 (.slice ra rL rc) none (some (.int .i64 (D : Int))) none).run Tryd.prog ww = .ok (.slice ra D rc) ww := fun ww => run_cutS ra rL rc D ww (by omega)
      go_wp2_with fail
      obtain ⟨bk, sk, hbk, hrest⟩ := run_split D HRUN.out
      obtain ⟨_, tl, htl⟩ := run_len hrest
      obtain ⟨sm, hsm⟩ : ∃ sm, bk.length = sm := ⟨_, rfl⟩
      have HBK : Hid (runA n [] st0 (row.take D) = some (bk, sk)) := hbk
      have HSM : Hid (bk.length = sm ∧ sumS (row.take D) = sm) := ⟨hsm, by have := (run_len hbk).1; simp at this; omega⟩
      have hsma : sm ≤ aL := by
        have := congrArg List.length htl
        rw [HAL.out, List.length_append, hsm] at this
        omega
      have HTK : Hid (all.take sm = bk) := by show _ = _; rw [htl, ← hsm, List.take_left]
      have hba := HBA.out
      have HT1 : Hid (Tab w1) := Y.new HT.out HC1.out
      clear hbk hrest htl hsm
      go_loopw [15, 77] (fun v1 v2 wr => ∃ (i sq : Nat), i ≤ D ∧ v1 = .int .i64 (sq : Int) ∧ v2 = .int .i64 (i : Int) ∧ Hid (sumS (row.take i) = sq ∧ Chg (fun _ => False) w1 wr)) (fun _ v2 _ => D - (intOf v2).toNat)
      case atStart => exact ⟨0, 0, by omega, rfl, rfl, rfl, HC4.out⟩
      case round =>
        obtain ⟨i, sq, hi, rfl, rfl, HI⟩ := hrel
        have hii : (i : Int) ≤ (D : Int) := by omega
        have hrl6 : (rL : Int) ≤ 1048576 := by omega
        by_cases hlt : i < D
        · have hd1 : decide ((i : Int) < (D : Int)) = true := by simp; omega
          have hd1' : decide (i < D) = true := decide_eq_true hlt
          obtain ⟨y, hy⟩ : ∃ y, row[i]? = some y := ⟨row[i]'(by have := HRL.out; omega), List.getElem?_eq_getElem _⟩
          obtain ⟨hyi, lb, lo, had, k0, k1, k2, k3⟩ := HSL.out.new HI.out.2 i y hy
          obtain ⟨sz, hsz⟩ : ∃ sz : Nat, sizeA y = (sz : Int) := ⟨(sizeA y).toNat, by have := sizeA_le y; omega⟩
          have HSI : Hid (∀ w_, Tab w_ → Calls Tryd.prog 13 #[.agg #[.int .i64 y.k, .int .u8 y.y, .int .i64 y.l, .int .i64 y.d]] w_ fun e w' => e = .returned (.int .i64 (sz : Int)) ∧ Chg (fun _ => False) w_ w') := fun w_ h => by
            have h9 := Y.size y w_ h hyi
            rw [hsz] at h9
            exact h9
          have HSN : Hid (sumS (row.take (i + 1)) = sq + sz) := by
            show _ = _
            rw [sum_next hy, HI.out.1, hsz, Int.toNat_natCast]
          have hsz2 : sz ≤ 273 := by have := sizeA_le y; omega
          have hsq : sq ≤ 273 * 1048576 := by
            have h9 := sum_le (row.take i)
            rw [HI.out.1, List.length_take] at h9
            omega
          have cY := chg_one wr (.cells #[.int .i64 y.k, .int .u8 y.y, .int .i64 y.l, .int .i64 y.d] 33)
          have HCY : Hid _ := chg_then HI.out.2 cY
          clear hy hsz hyi cY HI
          subst had
          go_wp2_with fail
          refine (HSI.out _ (Y.new HT1.out HCY.out)).mono ?_
          rintro z w7 ⟨rfl, c7⟩
          have HC7 : Hid _ := chg_then HCY.out c7
          clear c7 HCY HSI k0 k1 k2 k3
          go_wp2_with fail
          exact ⟨⟨i + 1, sq + sz, by omega, by go_num, by go_num, HSN.out, HC7.out⟩, by simp [intOf]; omega⟩
        · have hd1 : decide ((i : Int) < (D : Int)) = false := by simp; omega
          have hd1' : decide (i < D) = false := decide_eq_false hlt
          have hiD : i = D := by omega
          have HSQ : Hid (sq = sm) := by
            have h9 := HI.out.1
            rw [hiD, HSM.out.2] at h9
            exact h9.symm
          have HCW : Hid (Chg (fun _ => False) w1 wr) := HI.out.2
          obtain ⟨rfl, rfl⟩ : sq = sm ∧ i = D := ⟨HSQ.out, hiD⟩
          have HTW : Hid (Tab wr) := Y.new HT1.out HCW.out
          have HEX2 : Hid (Calls Tryd.prog 14 #[.int .i64 (n : Int), .slice ra i rc] wr fun e w' => ∃ ov, e = .returned (.tuple #[ov, .int .i64 (i : Int), .int .i64 0]) ∧ w'.ownsRow wr.heap.size 5 1 ov sq (ins .u8 (nums bk)) ∧ Chg (fun _ => False) wr w') := by
            have hlk : (row.take i).length = i := by rw [List.length_take]; have := HRL.out; omega
            have h9 := Y.expand (n : Int) ra rc (row.take i) wr HTW.out ⟨by omega, by omega⟩ ((HSL.out.new HCW.out).take i) (by omega) (by omega)
            have h8 : expandA (n : Int) (row.take i) = (bk, i, 0) := by
              unfold expandA
              rw [if_neg (by omega), Int.toNat_natCast, exp_run 0 HBK.out, hlk, Nat.zero_add]
            rw [h8, hlk, HSM.out.1] at h9
            exact h9
          clear HI HSQ hlt hiD
          go_wp2_with fail
          refine Calls.mono HEX2.out ?_
          rintro z w8 ⟨ov, rfl, ho, c8⟩
          obtain ⟨oa2, oc2, hov⟩ := form1 ho
          subst hov
          have HC8 : Hid (Chg (fun _ => False) w1 w8) := chg_then HCW.out c8
          have hcv : ∀ kx, (convert 24 9 (.slice oa2 sq oc2)).run Tryd.prog (w8.drewN kx) = .ok (.string (strOfNums (nums bk))) (w8.drewN kx) := fun kx => conv_own (ownsRow_keep ho (chg_drewN _ _) (fun _ _ f => f))
          have hcu : ∀ ww : World, (Instr.sliceAt 24 (.slice aa aL ac) none (some (.int .i64 (sq : Int))) none).run Tryd.prog ww = .ok (.slice aa sq ac) ww := fun ww => run_cut_hi aa aL ac sq ww (by have := own_cap HALL.out; omega)
          have hcw : ∀ kx, (convert 24 9 (.slice aa sq ac)).run Tryd.prog (w8.drewN kx) = .ok (.string (strOfNums (nums bk))) (w8.drewN kx) := fun kx => by
            have h7 := ownsRow_keep HALL.out (chg_then HC8.out (chg_drewN w8 kx)) (fun _ _ f => f)
            have h8 := row8_take (row8_own h7) (own_cap h7) sq hsma
            have h9 : (nums all).take sq = nums bk := by rw [← HTK.out]; simp [nums, List.map_take]
            rw [h9] at h8
            exact Bk.conv8_here h8
          clear ho c8 HEX2
          go_wp2_with fail
          go_quiet (fail)
          have HC9 : Hid (Chg (fun _ => False) w1 (w8.drewN nq)) := chg_then HC8.out (chg_drewN _ _)
          clear hcv hcw hcu HC8
          generalize w8.drewN nq = w9 at *
          have cE := chg_one w9 (.cells #[] 33)
          have hown := own_emptyS w9
          have hlk : (row.take i).length = i := by rw [List.length_take]; have := HRL.out; omega
          have hsrc : From (w9.alloc (.cells #[] 33)) ra i rc 4 (symcs (row.take i)) := from_symL ((HSL.out.new (chg_then HC9.out cE)).take i) hlk (fun e => by
            rcases HROW.out.2 with ⟨h9, h8⟩ | ⟨g, cap, cur, h9, _⟩
            · simp only [Value.slice.injEq] at h9
              exact ⟨h9.2.2, by omega⟩
            · simp only [Value.slice.injEq] at h9
              rw [e] at h9
              exact absurd h9.1 (by simp))
          have hone := symcs_cell (row.take i)
          have hszE : w9.heap.size ≤ (w9.alloc (.cells #[] 33)).heap.size := by rw [World.size_alloc]; omega
          have HLK : Hid _ := hlk
          clear hlk
          go_wp2_with (at_builtin; refine wpList_append_moved rfl _ _ 22 rfl w9.heap.size 33 iy (.agg #[.int .i64 0, .int .u8 0, .int .i64 0, .int .i64 0]) 4 32 Tryd.underlying22 hiy hy0 hy1 hy2 rfl (by decide) _ 0 (symcs []) rfl ra i rc rfl (symcs (row.take i)) hown hsrc hone (by unfold maxLen; omega) (by omega) hszE ?_)
          intro v9 w10 ho9 hg9 hm9
          have c10 : Chg (fun z => (Value.slice (some ⟨w9.heap.size, 0, none⟩) 0 0).ownBlock = some z) (w9.alloc (.cells #[] 33)) w10 := (Chg.refl _ _).grown hg9 (fun z e => .inl e)
          have HC10 : Hid (Chg (fun _ => False) w9 w10) := cE.trans c10 (fun z e => .inr (World.ownsRow.lt hown z e).1)
          have HF10 : Hid (SymO w10 w9.heap.size v9 (row.take i)) := sym_app (a := []) ho9 (by rw [List.nil_append, HLK.out])
          obtain ⟨fa, fc, hv9⟩ := formSym ho9
          subst hv9
          clear ho9 hg9 hm9 c10 hown hsrc hone cE hszE
          have c11 := chg_one w10 (.cells #[.int .i64 2, .int .u8 0, .int .i64 3, .int .i64 ((sq : Int) + 1), .int .i64 1, .int .u8 5, .int .i64 0, .int .i64 0] 33)
          have hsrc := from_sym2 w10 ⟨2, 0, 3, (sq : Int) + 1⟩ ⟨1, 5, 0, 0⟩ 33
          have hone := symcs_cell [⟨2, 0, 3, (sq : Int) + 1⟩, ⟨1, 5, 0, 0⟩]
          have hown : (w10.alloc (.cells #[.int .i64 2, .int .u8 0, .int .i64 3, .int .i64 ((sq : Int) + 1), .int .i64 1, .int .u8 5, .int .i64 0, .int .i64 0] 33)).ownsRow w9.heap.size 33 4 (.slice fa i fc) i (symcs (row.take i)) := by
            have h9 := SymO.new HF10.out c11
            unfold SymO at h9
            rw [HLK.out] at h9
            exact h9
          have hszE : w9.heap.size ≤ (w10.alloc (.cells #[.int .i64 2, .int .u8 0, .int .i64 3, .int .i64 ((sq : Int) + 1), .int .i64 1, .int .u8 5, .int .i64 0, .int .i64 0] 33)).heap.size := by have := HC10.out.size; rw [World.size_alloc]; omega
          go_wp2_with (at_builtin; refine wpList_append_moved rfl _ _ 22 rfl w9.heap.size 33 iy (.agg #[.int .i64 0, .int .u8 0, .int .i64 0, .int .i64 0]) 4 32 Tryd.underlying22 hiy hy0 hy1 hy2 rfl (by decide) _ i (symcs (row.take i)) rfl (some ⟨w10.heap.size, 0, none⟩) 2 2 rfl (symcs [⟨2, 0, 3, (sq : Int) + 1⟩, ⟨1, 5, 0, 0⟩]) hown hsrc hone (by unfold maxLen; omega) (by omega) hszE ?_)
          intro v9 w12 ho9 hg9 hm9
          obtain ⟨ga, gc, hv9⟩ := formSym ho9
          subst hv9
          have c12 : Chg (fun z => (Value.slice fa i fc).ownBlock = some z) (w10.alloc (.cells #[.int .i64 2, .int .u8 0, .int .i64 3, .int .i64 ((sq : Int) + 1), .int .i64 1, .int .u8 5, .int .i64 0, .int .i64 0] 33)) w12 := (Chg.refl _ _).grown hg9 (fun z e => .inl e)
          have HC12 : Hid (Chg (fun _ => False) w9 w12) := (chg_then HC10.out c11).trans c12 (fun z e => .inr (World.ownsRow.lt hown z e).1)
          have HLF : Hid ((row.take i ++ [(⟨2, 0, 3, (sq : Int) + 1⟩ : Sym), ⟨1, 5, 0, 0⟩]).length = i + 2) := by show _ = _; rw [List.length_append, HLK.out]; rfl
          have HF12 : Hid (SymO w12 w9.heap.size (.slice ga (i + 2) gc) (row.take i ++ [⟨2, 0, 3, (sq : Int) + 1⟩, ⟨1, 5, 0, 0⟩])) := sym_app ho9 HLF.out.symm
          have HOF : Hid (∀ y ∈ row.take i ++ [(⟨2, 0, 3, (sq : Int) + 1⟩ : Sym), ⟨1, 5, 0, 0⟩], y.I) := fun y hy => by
            rcases List.mem_append.1 hy with h | h
            · exact HOK.out y (List.mem_of_mem_take h)
            · simp only [List.mem_cons, List.not_mem_nil, or_false] at h
              rcases h with rfl | rfl
              · exact symI 2 0 3 ((sq : Int) + 1) ⟨by decide, by decide⟩ ⟨by decide, by decide⟩ ⟨by omega, by omega⟩ ⟨by decide, by decide⟩
              · exact symI 1 5 0 0 ⟨by decide, by decide⟩ ⟨by decide, by decide⟩ ⟨by decide, by decide⟩ ⟨by decide, by decide⟩
          have HEX3 : Hid (Calls Tryd.prog 14 #[.int .i64 (n : Int), .slice ga (i + 2) gc] w12 fun e w' => ∃ ov, e = .returned (.tuple #[ov, .int .i64 (i : Int), .int .i64 7]) ∧ w'.ownsRow w12.heap.size 5 1 ov 0 (ins .u8 (nums [])) ∧ Chg (fun _ => False) w12 w') := by
            obtain ⟨pa2, pc2, hpv, hpl, hpc⟩ := SymO.list HF12.out HOF.out
            rw [HLF.out] at hpv hpc
            simp only [Value.slice.injEq] at hpv
            obtain ⟨hp1, _, hp3⟩ := hpv
            rw [← hp1] at hpl
            rw [← hp3] at hpc
            have h9 := Y.expand (n : Int) ga gc _ w12 (Y.new HT1.out (chg_then HC9.out HC12.out)) ⟨by omega, by omega⟩ hpl (by rw [HLF.out]; exact hpc) (by rw [HLF.out]; omega)
            have h8 : expandA (n : Int) (row.take i ++ [⟨2, 0, 3, (sq : Int) + 1⟩, ⟨1, 5, 0, 0⟩]) = ([], i, 7) := by
              have h7 := exp_far HBK.out (by have := HSM.out.1; omega)
              rw [HSM.out.1, HLK.out] at h7
              unfold expandA
              rw [if_neg (by omega), Int.toNat_natCast, h7]
            rw [h8, HLF.out] at h9
            exact h9
          clear ho9 hg9 hm9 c12 c11 hown hsrc hone hszE HF10 HC10
          go_wp2_with fail
          refine Calls.mono HEX3.out ?_
          rintro z w13 ⟨ov, rfl, ho, c13⟩
          obtain ⟨oa3, oc3, hov⟩ := form1 ho
          subst hov
          have HC13 : Hid (Chg (fun _ => False) w w13) := chg_then HC1.out (chg_then HC9.out (chg_then HC12.out c13))
          clear ho c13 HEX3
          go_wp2
          go_ret
          exact ⟨rfl, HC13.out⟩
end Go.Proofs.YtlnocjicmofjfaaDoor
