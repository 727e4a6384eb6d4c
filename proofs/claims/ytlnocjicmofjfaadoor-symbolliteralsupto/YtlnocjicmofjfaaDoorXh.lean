/- The landed window's Copy; of no statement by itself. -/
import Derived.Test.YtlnocjicmofjfaaDoorXg
import Derived.Laws.OwnMore
namespace Go.Proofs.YtlnocjicmofjfaaDoor
open Go.RowKit
set_option linter.unusedVariables false

structure CpR (w0 wr : World) (B a n : Nat) (v : Value) (bs ring : List Nat) (bd : Option Addr) (M D k : Nat) (zs : List Nat) : Prop where
  win : WinR wr B a v n bs ring
  own : wr.ownsRow w0.heap.size 5 1 (.slice bd M M) M (ins .u8 (nums (copyL D bs k ++ zs)))
  chg : Chg (fun _ => False) w0 wr
  len : k + zs.length = M
theorem copy_double_row (d k q : Nat) (bs zs : List Nat) (h1 : 1 ≤ d) (h2 : d ≤ bs.length) (hd : d ∣ k) (hq : q ≤ k) (hz : q ≤ zs.length) : (copyL d bs k ++ zs).take k ++ ((copyL d bs k).take q ++ (copyL d bs k ++ zs).drop (k + ((copyL d bs k).take q).length)) = copyL d bs (k + q) ++ zs.drop q := by
  have hl := copyL_len d k bs
  have hl2 : ((copyL d bs k).take q).length = q := by rw [List.length_take, hl]; omega
  rw [List.take_left' hl, hl2, List.drop_append, List.drop_eq_nil_of_le (by omega), List.nil_append, hl, copyL_double h1 h2 hd hq, List.append_assoc]
  congr 3
  omega
set_option maxHeartbeats 4000000 in
set_option maxRecDepth 100000 in
theorem wcopy_any (B a : Nat) (v : Value) (n : Nat) (bs : List Nat) (d m : Int) (w0 : World) (h : Win w0 B a v n bs) (hB : B ≤ w0.heap.size) (hid : I64 d) (him : I64 m) (hl : bs.length + 273 ≤ 1152921504606846976) : Calls Tryd.prog 58 #[.pointer (some ⟨a, 0, none⟩), .int .i64 d, .int .i64 m] w0 fun e w' =>
    (¬ Cpy n bs d m ∧ e = .returned (.tuple #[.slice none 0 0, .int .i64 7]) ∧ Chg (fun _ => False) w0 w')
    ∨ (Cpy n bs d m ∧ ∃ ov v', e = .returned (.tuple #[ov, .int .i64 0]) ∧ Win w' B a v' n (bs ++ copyL d.toNat bs m.toNat) ∧ w'.ownsRow w0.heap.size 5 1 ov m.toNat (ins .u8 (nums (copyL d.toNat bs m.toNat))) ∧ (∀ g, ov.ownBlock = some g → ¬ Foot a v' g) ∧ Chg (Foot a v) w0 w' ∧ Moved w0 v v') := by
  obtain ⟨iu, hiu, hu0, hu1, hu2⟩ := info_parts infoU8
  obtain ⟨ring, h⟩ := h
  have HH : Hid _ := wholds_any d w0 h
  have HW0 : Hid (WinR w0 B a v n bs ring) := h
  by_cases hi : Inw n bs d
  rotate_left
  · rw [decide_eq_false hi] at HH
    have HI : Hid (¬ Cpy n bs d m) := fun f => hi f.1
    clear h hl hi
    go_enter Tryd.func58, Tryd.ntmps58
    go_wp2_with fail
    refine Calls.mono HH.out ?_
    rintro z w1 ⟨rfl, c1⟩
    have HC : Hid (Chg (fun _ => False) w0 w1) := c1
    clear c1 HH
    go_wp2
    go_ret2
    exact .inl ⟨HI.out, rfl, HC.out⟩
  rw [decide_eq_true hi] at HH
  by_cases hm0 : m < 0
  · have hd1 : decide (m < 0) = true := by simp; omega
    have HI : Hid (¬ Cpy n bs d m) := fun f => by have := f.2.1; omega
    clear h hl hi
    go_enter Tryd.func58, Tryd.ntmps58
    go_wp2_with fail
    refine Calls.mono HH.out ?_
    rintro z w1 ⟨rfl, c1⟩
    have HC : Hid (Chg (fun _ => False) w0 w1) := c1
    clear c1 HH
    go_wp2
    go_ret2
    exact .inl ⟨HI.out, rfl, HC.out⟩
  have hd1 : decide (m < 0) = false := by simp; omega
  by_cases hm1 : 273 < m
  · have hd2 : decide (273 < m) = true := by simp; omega
    have HI : Hid (¬ Cpy n bs d m) := fun f => by have := f.2.2; omega
    clear h hl hi
    go_enter Tryd.func58, Tryd.ntmps58
    go_wp2_with fail
    refine Calls.mono HH.out ?_
    rintro z w1 ⟨rfl, c1⟩
    have HC : Hid (Chg (fun _ => False) w0 w1) := c1
    clear c1 HH
    go_wp2
    go_ret2
    exact .inl ⟨HI.out, rfl, HC.out⟩
  have hd2 : decide (273 < m) = false := by simp; omega
  have HCPY : Hid (Cpy n bs d m) := ⟨hi, by omega, by omega⟩
  obtain ⟨i1, i2, i3, i4⟩ := hi.nat
  obtain ⟨D, hD⟩ : ∃ D, d.toNat = D := ⟨_, rfl⟩
  rw [hD] at i1 i2 i3 i4
  subst i4
  obtain ⟨M, rfl⟩ : ∃ M : Nat, (M : Int) = m := ⟨m.toNat, by omega⟩
  simp only [Int.toNat_natCast]
  have hM : M ≤ 273 := by omega
  have hMb : (M : Int) ≤ 273 := by omega
  have hDr : D ≤ ring.length := by have := h.ok.len; omega
  have HD1 : Hid (1 ≤ D ∧ D ≤ bs.length) := ⟨i1, i2⟩
  have HBL : Hid (bs.length + 273 ≤ 1152921504606846976) := hl
  have hDi : (D : Int) ≤ 4294967295 := by have := h.small; omega
  have HFZ : Hid (∀ z, Foot a v z → z < w0.heap.size) := fun z f => (h.lt f).2
  obtain ⟨j, hj⟩ : ∃ j, min D M = j := ⟨_, rfl⟩
  have hjM : j ≤ M := by omega
  have hjD : j ≤ D := by omega
  have hmin := min_int hj
  have HJS : Hid (j = M ∨ (D ∣ j ∧ 1 ≤ j)) := by
    by_cases c : M ≤ D
    · exact .inl (by omega)
    · exact .inr ⟨⟨1, by omega⟩, by omega⟩
  have HREAD : Hid (∀ bd w1 zs, WinR w1 B a v n bs ring → w1.ownsRow w0.heap.size 5 1 (.slice bd M M) M (ins .u8 (nums zs)) → Calls Tryd.prog 61 #[.pointer (some ⟨a, 0, none⟩), .int .i64 (D : Int), .slice bd j M] w1 fun e w' => e = .returned (.int .i64 (j : Int)) ∧ w'.ownsRow w0.heap.size 5 1 (.slice bd M M) M (ins .u8 (nums (copyL D bs j ++ zs.drop j))) ∧ Chg (fun z => (Value.slice bd M M).ownBlock = some z) w1 w') := fun bd w1 zs hw ho => by
    have := wread_any D j M M w0.heap.size bd zs w1 hw (by omega) i1 hDr hjD hjM ho (fun g e f => by have h1 := (ho.lt g e).1; have h2 := HFZ.out g f; omega)
    rw [copyL_front i1 i2 hjD]
    exact this
  clear h hl hi i1 i2 i3 hD hm0 hm1 hid him hj
  go_enter Tryd.func58, Tryd.ntmps58
  go_wp2_with fail
  refine Calls.mono HH.out ?_
  rintro z w1 ⟨rfl, c1⟩
  have HC1 : Hid (Chg (fun _ => False) w0 w1) := c1
  have hs1 : w0.heap.size ≤ w1.heap.size := c1.size
  clear c1 HH
  go_wp2_with (first | (at_make; refine wpList_make_full _ rfl (.tmp 22) (.tmp 22) 24 rfl w0.heap.size 5 iu (.int .u8 0) 1 Tryd.underlying24 hiu hu0 hu1 .i64 .i64 _ _ M rfl rfl rfl rfl (by rw [hu2]; omega) (by unfold maxLen; omega) hs1 ?_))
  intro w2 ho2 hg2
  have c2 : Chg (fun _ => False) w1 w2 := (Chg.refl _ w1).grown hg2 (fun k e => by cases e)
  have HC2 : Hid (Chg (fun _ => False) w0 w2) := chg_then HC1.out c2
  have HO2 : Hid (w2.ownsRow w0.heap.size 5 1 (.slice (some ⟨w1.heap.size, 0, none⟩) M M) M (ins .u8 (nums (List.replicate M 0)))) := by
    rw [toList_madeCells_one] at ho2
    simpa [Hid, ins, nums] using ho2
  have HRD : Hid _ := HREAD.out _ w2 _ (HW0.out.new HC2.out) HO2.out
  have HCA : Hid (∀ w3, Chg (fun z => (Value.slice (some ⟨w1.heap.size, 0, none⟩) M M).ownBlock = some z) w2 w3 → Chg (fun _ => False) w0 w3) := fun w3 c => HC2.out.trans c (fun z e => .inr (HO2.out.lt z e).1)
  clear ho2 hg2 c2 HREAD HO2
  generalize (some (⟨w1.heap.size, 0, none⟩ : Addr)) = bd at *
  go_wp2_with (first | (refine wpList_cut_hi rfl _ _ rfl bd M M j rfl rfl hjM ?_))
  refine Calls.mono HRD.out ?_
  rintro z w3 ⟨rfl, ho3, c3⟩
  have HS3 : Hid (CpR w0 w3 B a n v bs ring bd M D j ((List.replicate M 0).drop j)) := ⟨HW0.out.new (HCA.out w3 c3), ho3, HCA.out w3 c3, by rw [List.length_drop, List.length_replicate]; omega⟩
  clear ho3 c3 HRD HCA HC2 HC1 hs1
  go_wp2_with fail
  go_loopw [9] (fun iv wr => ∃ (k : Nat) (zs : List Nat), k ≤ M ∧ iv = .int .i64 (k : Int) ∧ Hid (k = M ∨ (D ∣ k ∧ 1 ≤ k)) ∧ Hid (CpR w0 wr B a n v bs ring bd M D k zs)) (fun iv _ => M - (intOf iv).toNat)
  case atStart => exact ⟨j, _, hjM, rfl, HJS.out, HS3.out⟩
  case round =>
    clear HS3 HJS hmin hjM hjD
    obtain ⟨k, zs, hk, rfl, HDV, HS⟩ := hrel
    by_cases hlt : k < M
    · have hdk : decide (k < M) = true := decide_eq_true hlt
      have hdv : D ∣ k ∧ 1 ≤ k := by rcases HDV.out with e | e; omega; exact e
      obtain ⟨qq, hq⟩ : ∃ qq, Nat.min k (M - k) = qq := ⟨_, rfl⟩
      have hqk : qq ≤ k := by rw [← hq]; exact Nat.min_le_left _ _
      have hqM : qq ≤ M - k := by rw [← hq]; exact Nat.min_le_right _ _
      have hq1 : 1 ≤ qq := by rw [← hq]; exact Nat.le_min.2 ⟨hdv.2, by omega⟩
      have HDN : Hid (k + qq = M ∨ (D ∣ (k + qq) ∧ 1 ≤ k + qq)) := by
        have hq' : min k (M - k) = qq := hq
        by_cases c : k ≤ M - k
        · refine .inr ⟨?_, by omega⟩
          rw [show qq = k by omega]
          exact Nat.dvd_add hdv.1 hdv.1
        · exact .inl (by omega)
      obtain ⟨kq, hkq⟩ : ∃ kq, k + qq = kq := ⟨_, rfl⟩
      have hadd : (k : Int) + (qq : Int) = (kq : Int) := by omega
      have hwr : IntKind.i64.wrap (kq : Int) = (kq : Int) := wr64 (by omega) (by omega)
      obtain ⟨ls, hls⟩ : ∃ ls, copyL D bs k ++ zs = ls := ⟨_, rfl⟩
      obtain ⟨ys, hys⟩ : ∃ ys, (copyL D bs k).take qq = ys := ⟨_, rfl⟩
      have hyl : ys.length = qq := by rw [← hys, List.length_take, copyL_len]; omega
      have hrow := copy_double_row D k qq bs zs HD1.out.1 HD1.out.2 hdv.1 hqk (by have := HS.out.len; omega)
      rw [hys, hls, hkq] at hrow
      have HRW : Hid (splice (ins .u8 (nums ls)) k ((nums ys).map (Value.int .u8)) = ins .u8 (nums (copyL D bs kq ++ zs.drop qq))) := by show _ = _; rw [splice_nums, hrow]
      have HO : Hid (wr.ownsRow w0.heap.size 5 1 (.slice bd M M) M (ins .u8 (nums ls))) := by rw [← hls]; exact HS.out.own
      have HLN : Hid (((nums ys).map (Value.int .u8)).length = Nat.min k (M - k)) := by show _ = _; rw [List.length_map, nums_len, hyl, hq]
      have HFIT : Hid (k + ((nums ys).map (Value.int .u8)).length ≤ M) := by show _ ≤ _; rw [List.length_map, nums_len, hyl]; omega
      have HDST : Hid (∀ g, (Value.slice bd M M).ownBlock = some g → cutA bd M k = some ⟨g, k, none⟩) := dst_at HO.out k hlt
      have HYS : Hid (ls = ys ++ ((copyL D bs k).drop qq ++ zs)) := by show _ = _; rw [← hls, ← hys, ← List.append_assoc, List.take_append_drop]
      have HYL : Hid (ys.length = qq) := hyl
      have HKQ : Hid (k + qq = kq) := hkq
      clear hq hls hys hyl hrow hdv hkq
      go_wp2_with fail
      refine wp_region_phase (mk := fun u => #[_, _, _, _, _, _, _, _, _, _, _, _, _, _, _, _, _, _, _, _, _, _, _, _, _, _, _, _, _, _, _, _, _, _, _, u 35, u 36, u 37, u 38, u 39, u 40, u 41, u 42, u 43, _, _, _, _]) (G := lookG [(35, .int .i64 (k : Int)), (36, .slice bd M M), (37, .int .i64 (k : Int)), (38, .slice (cutA bd M k) (M - k) (M - k)), (39, .slice bd M M), (40, .int .i64 (k : Int)), (41, .slice bd k M), (42, .int .i64 (qq : Int)), (43, .int .i64 (kq : Int))]) (J := fun q _ ww => LayJ wr w0.heap.size (.slice bd M M) M (splice (ins .u8 (nums ls)) k ((nums ys).map (Value.int .u8))) q ww) [7] (fun t => match t with | 35 => u35 | 36 => u36 | 37 => u37 | 38 => u38 | 39 => u39 | 40 => u40 | 41 => u41 | 42 => u42 | 43 => u43 | _ => undef) rfl (by kernel_rfl) 9 _ rfl rfl (by kernel_rfl) (by kernel_rfl) (by kernel_rfl) (by decide) ?_ ?_ ?_ ?_ ?_
      · repeat (refine ⟨⟨_, rfl, fun _ _ => rfl⟩, ?_⟩)
        exact trivial
      · exact fun q u u2 ww _ h => h
      · exact (Chg.refl _ wr).drew
      · refine ⟨?_, ?_, ?_, ?_, ?_, ?_, ?_, ?_, ?_, trivial⟩
        · show StepR _ _ _ _ _ _  _ -- 35
          unfold StepR
          intro q u w_ hj hd K hK
          clear hd
          go_simp
          exact hK.out (.int .i64 (k : Int)) rfl
        · show StepR _ _ _ _ _ _  _ -- 36
          unfold StepR
          intro q u w_ hj hd K hK
          clear hd
          go_simp
          exact hK.out (.slice bd M M) rfl
        · show StepR _ _ _ _ _ _  _ -- 37
          unfold StepR
          intro q u w_ hj hd K hK
          clear hd
          go_simp
          exact hK.out (.int .i64 (k : Int)) rfl
        · show StepR _ _ _ _ _ _  _ -- 38
          unfold StepR
          intro q u w_ hj hd K hK
          have h36 : u 36 = .slice bd M M := hd.get 1 (by kernel_rfl)
          have h37 : u 37 = .int .i64 (k : Int) := hd.get 2 (by kernel_rfl)
          clear hd
          refine step_cut_lo (a := ⟨_, []⟩) (by rfl) (.tmp 36) (.tmp 37) (by rfl) bd M M k (by exact h36) (by exact h37) hk (hK.out _ rfl)
        · show StepR _ _ _ _ _ _  _ -- 39
          unfold StepR
          intro q u w_ hj hd K hK
          clear hd
          go_simp
          exact hK.out (.slice bd M M) rfl
        · show StepR _ _ _ _ _ _  _ -- 40
          unfold StepR
          intro q u w_ hj hd K hK
          clear hd
          go_simp
          exact hK.out (.int .i64 (k : Int)) rfl
        · show StepR _ _ _ _ _ _  _ -- 41
          unfold StepR
          intro q u w_ hj hd K hK
          have h39 : u 39 = .slice bd M M := hd.get 4 (by kernel_rfl)
          have h40 : u 40 = .int .i64 (k : Int) := hd.get 5 (by kernel_rfl)
          clear hd
          refine step_cut_hi (a := ⟨_, []⟩) (by rfl) (.tmp 39) (.tmp 40) (by rfl) bd M M k (by exact h39) (by exact h40) hk (hK.out _ rfl)
        · show StepW _ _ _ _ _ _ 0 _ -- 42
          unfold StepW
          intro u w_ hj hd K hK
          have h38 : u 38 = .slice (cutA bd M k) (M - k) (M - k) := hd.get 3 (by kernel_rfl)
          have h41 : u 41 = .slice bd k M := hd.get 6 (by kernel_rfl)
          clear hd
          have hc : Chg (fun _ => False) wr w_ := hj
          refine step_copy_own (a := ⟨_, []⟩) (by rfl) (.tmp 38) (.tmp 41) 24 24 (by rfl) w0.heap.size 5 Tryd.underlying24 sizeInfo8 (.slice bd M M) M (ins .u8 (nums ls)) (ownsRow_keep HO.out hc (fun _ _ f => f)) k (cutA bd M k) (M - k) (M - k) (by exact h38) bd k M (by exact h41) ((nums ys).map (Value.int .u8)) HLN.out HFIT.out (fun _ => HDST.out) (fun h0 => src_front (row8_own (ownsRow_keep HO.out hc (fun _ _ f => f))) HYS.out h0) (one8 ys) ?_
          intro w2 ho2 c2
          have e9 : goInt ((nums ys).map (Value.int .u8)).length = .int .i64 (qq : Int) := by rw [List.length_map, nums_len, HYL.out]; rfl
          rw [e9]
          exact hK.out _ w2 ⟨ho2, (hc.mono (fun _ f => f.elim)).trans c2 (fun z f => .inl f)⟩ rfl
        · show StepR _ _ _ _ _ _  _ -- 43
          unfold StepR
          intro q u w_ hj hd K hK
          have h35 : u 35 = .int .i64 (k : Int) := hd.get 0 (by kernel_rfl)
          have h42 : u 42 = .int .i64 (qq : Int) := hd.get 7 (by kernel_rfl)
          clear hd
          simp only [h35, h42] at hK
          go_simp
          exact hK.out (.int .i64 (kq : Int)) rfl
      · intro u w2 hj hA K hK
        obtain ⟨ho2, c2⟩ := hj
        have h43 : u 43 = .int .i64 (kq : Int) := hA.at 43 (by kernel_rfl)
        have cA : Chg (fun _ => False) w0 w2 := HS.out.chg.trans c2 (fun z e => .inr (HO.out.lt z e).1)
        have HS2 : Hid (CpR w0 w2 B a n v bs ring bd M D kq (zs.drop qq)) := ⟨HW0.out.new cA, by rw [← HRW.out]; exact ho2, cA, by have h1 := HS.out.len; have h2 := HKQ.out; rw [List.length_drop]; omega⟩
        have HDM : Hid (kq = M ∨ (D ∣ kq ∧ 1 ≤ kq)) := by rw [← HKQ.out]; exact HDN.out
        have hkM : kq ≤ M := by have := HKQ.out; omega
        have hkk : k < kq := by have := HKQ.out; omega
        clear hA ho2 c2 cA HS HRW HO HLN HFIT HDST HYS HYL HDN HKQ
        go_simp
        refine hK.out _ _ ?_
        clear hK h43 K
        go_wp2_with fail
        go_roundw
        case rel => exact ⟨kq, _, hkM, rfl, HDM.out, HS2.out⟩
        case measure => simp [intOf]; omega
    · have hkM : M = k := by omega
      subst hkM
      have hzs : zs = [] := List.eq_nil_of_length_eq_zero (by have := HS.out.len; omega)
      subst hzs
      have HO : Hid (wr.ownsRow w0.heap.size 5 1 (.slice bd M M) M (ins .u8 (nums (copyL D bs M)))) := by have := HS.out.own; rw [List.append_nil] at this; exact this
      have HW : Hid (Win wr B a v n bs) := ⟨ring, HS.out.win⟩
      have HC : Hid (Chg (fun _ => False) w0 wr) := HS.out.chg
      have HPUT : Hid _ := wput_any B a v n bs bd M M (copyL D bs M) wr HW.out (Nat.le_trans hB HC.out.size) (row8_own HO.out) (copyL_dig HD1.out.1 M HD1.out.2 HS.out.win.dig) (fun x e f => by
        subst e
        have h1 := (HO.out.lt x.block rfl).1
        have h2 := HFZ.out _ f
        omega) (Nat.le_refl _) (by omega) (by have := HBL.out; omega)
      clear HS hlt
      go_wp2_with fail
      refine Calls.mono HPUT.out ?_
      rintro z w4 ⟨rfl, v4, hw4, c4, m4⟩
      have HF : Hid (Win w4 B a v4 n (bs ++ copyL D bs M) ∧ w4.ownsRow w0.heap.size 5 1 (.slice bd M M) M (ins .u8 (nums (copyL D bs M))) ∧ (∀ g, (Value.slice bd M M).ownBlock = some g → ¬ Foot a v4 g) ∧ Chg (Foot a v) w0 w4 ∧ Moved w0 v v4) := by
        have hd0 : ∀ g, (Value.slice bd M M).ownBlock = some g → ¬ Foot a v g := fun g e f => by
          have h1 := (HO.out.lt g e).1
          have h2 := HFZ.out _ f
          omega
        refine ⟨hw4, ownsRow_keep HO.out c4 hd0, fun g e f => ?_, (HC.out.mono (fun _ f => f.elim)).trans c4 (fun z f => .inl f), moved_from HC.out.size m4⟩
        rcases f with f | f
        · exact hd0 g e (.inl f)
        · rcases m4 g f with y | y
          · exact hd0 g e (.inr y)
          · have := (HO.out.lt g e).2
            omega
      clear hw4 c4 m4 HPUT HO HW HC
      go_wp2
      go_ret2
      exact .inr ⟨HCPY.out, _, v4, rfl, HF.out⟩
end Go.Proofs.YtlnocjicmofjfaaDoor
