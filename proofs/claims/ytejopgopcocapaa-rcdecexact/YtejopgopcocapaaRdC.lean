/- The contract of the document's Direct; of no statement by itself. -/
import Derived.Test.YtejopgopcocapaaRdB
namespace Go.Proofs.Ytejopgopcocapaa
open Go.RowKit
set_option linter.unusedVariables false

/-- n bits without a probability: the error, or the bits and the decoder behind them. -/
def dirD (bs : List Nat) : Nat → Nat → Rc.D → Except Nat (Nat × Rc.D)
  | 0, v, d => .ok (v, d)
  | m + 1, v, d => if (Rc.hpartD d).R ≤ (Rc.hpartD d).C then .error 2 else match Rc.widenD bs (Rc.hpartD d) with
    | none => .error 1
    | some d' => dirD bs m (2 * v + if d.R / 2 ≤ d.C then 1 else 0) d'
theorem dig_at {bs : List Nat} (h : Rc.Dig bs) (i : Nat) : bs.getD i 0 < 256 := by
  rw [List.getD_eq_getElem?_getD]
  cases e : bs[i]? with
  | none => simp
  | some x => exact h x (List.mem_of_getElem? e)
theorem okd_half {bs : List Nat} {d d' : Rc.D} (hdig : Rc.Dig bs) (h : OkD bs d) (hg : ¬ (Rc.hpartD d).R ≤ (Rc.hpartD d).C) (hw : Rc.widenD bs (Rc.hpartD d) = some d') : OkD bs d' := by
  have h1 := h.lo
  have h2 := h.hi
  have h3 := h.lt
  have h4 := h.n
  have hR : (Rc.hpartD d).R = d.R / 2 := by unfold Rc.hpartD; split <;> rfl
  have hN : (Rc.hpartD d).n = d.n := by unfold Rc.hpartD; split <;> rfl
  unfold Rc.widenD at hw
  split at hw
  · split at hw
    · rename_i a b
      simp only [Option.some.injEq] at hw
      subst hw
      refine ⟨by show 16777216 ≤ 256 * _; omega, by show 256 * _ ≤ _; omega, ?_, by show (Rc.hpartD d).n + 1 ≤ _; omega⟩
      show 256 * (Rc.hpartD d).C + _ < 256 * (Rc.hpartD d).R
      have := dig_at hdig (Rc.hpartD d).n
      omega
    · cases hw
  · rename_i a
    simp only [Option.some.injEq] at hw
    subst hw
    exact ⟨by omega, by omega, by omega, by omega⟩

theorem rddirect_out (r : Value) (n : Int) (w : World) (hn : n < 0 ∨ 32 < n) : Calls Try.prog 22 #[r, .int .i64 n] w fun e w' => e = .returned (.tuple #[.int .u32 0, .int .i64 7]) ∧ w = w' := by
  by_cases h0 : n < 0
  · go_enter Try.func22, Try.ntmps22
    go_wp2
    go_ret2
    exact ⟨rfl, rfl⟩
  · have h1 : 32 < n := by omega
    have hd : decide (n < 0) = false := by simp; omega
    go_enter Try.func22, Try.ntmps22
    go_wp2
    go_ret2
    exact ⟨rfl, rfl⟩

set_option maxHeartbeats 8000000 in
set_option maxRecDepth 100000 in
theorem rddirect_in (B r : Nat) (v : Value) (bs : List Nat) (d0 : Rc.D) (n : Nat) (w0 : World) (h : Rdc w0 B r v bs d0) (hO : OkD bs d0) (hn : n ≤ 32) (hl : bs.length ≤ 140737488355328) (hB : B ≤ w0.heap.size) :
    Calls Try.prog 22 #[.pointer (some ⟨r, 0, none⟩), .int .i64 (n : Int)] w0 fun x w' =>
      (∃ e, dirD bs n 0 d0 = .error e ∧ x = .returned (.tuple #[.int .u32 0, .int .i64 (e : Int)]) ∧ Chg (fun _ => False) w0 w')
      ∨ (∃ m d', dirD bs n 0 d0 = .ok (m, d') ∧ m < 2 ^ n ∧ OkD bs d' ∧ x = .returned (.tuple #[.int .u32 (m : Int), .int .i64 0]) ∧ Rdc w' B r v bs d' ∧ Chg (fun z => z = r) w0 w') := by
  obtain ⟨ad, cap, hv, _⟩ := own_any h.own
  obtain ⟨L, hL⟩ : ∃ L, bs.length = L := ⟨_, rfl⟩
  rw [hL] at hv
  have HV : Hid (v = .slice ad L cap) := hv
  have HH : Hid (Rdc w0 B r v bs d0) := h
  have HO : Hid (OkD bs d0) := hO
  have HDIG : Hid (Rc.Dig bs) := h.dig
  have hd : decide ((n : Int) < 0) = false := by simp
  have hd32 : decide ((32 : Int) < (n : Int)) = false := by simp; omega
  clear h hO hv
  go_enter Try.func22, Try.ntmps22
  go_wp2_with fail
  refine (rdfork_any B r v bs d0 _ HH.out hB).mono ?_
  rintro x w2 ⟨f, rfl, hf, hF, c2⟩
  have HF0 : Hid (Rdc w2 B f v bs d0) := hF
  have HC0 : Hid (Chg (fun _ => False) w0 w2) := c2
  have HFN : Hid (w0.heap.size ≤ f) := hf
  clear hF c2 hf
  obtain ⟨vv, hvv⟩ : ∃ vv, vv = v := ⟨_, rfl⟩
  rw [← hvv] at HF0
  have HVV : Hid (vv = v) := hvv
  clear hvv
  go_wp2_with fail
  go_loopw [7, 8] (fun vv7 iv wr => ∃ (i m : Nat) (d : Rc.D), i ≤ n ∧ iv = .int .i64 (i : Int) ∧ vv7 = .int .i64 (m : Int) ∧ Hid (Rdc wr B f vv bs d) ∧ Hid (OkD bs d) ∧ Hid (dirD bs (n - i) m d = dirD bs n 0 d0) ∧ Hid (m < 2 ^ i) ∧ Hid (Chg (fun _ => False) w0 wr)) (fun _ iv _ => n - (intOf iv).toNat)
  case atStart => exact ⟨0, 0, d0, Nat.zero_le _, rfl, rfl, HF0.out, HO.out, rfl, by show 0 < 2 ^ 0; decide, HC0.out⟩
  case round =>
    clear HF0 HC0
    obtain ⟨i, m, d, hi, rfl, rfl, HF, HOK, HD, HM, HC⟩ := hrel
    have hm33 : m < 4294967296 := by have h1 := HM.out; have h2 : 2 ^ i ≤ 2 ^ 32 := Nat.pow_le_pow_right (by omega) (by omega); omega
    by_cases hin : i < n
    · obtain ⟨N1, hN1⟩ : ∃ K, n - i = K + 1 := ⟨n - i - 1, by omega⟩
      rw [hN1] at HD
      obtain ⟨_, _, k2, k3, kf⟩ := rcells4 HF.out.blk
      have kf2 := kf 2
      have hlo := HOK.out.lo
      have hhi := HOK.out.hi
      have hlt := HOK.out.lt
      obtain ⟨z, hz⟩ : ∃ z : Int, z = (d.R : Int) := ⟨_, rfl⟩
      obtain ⟨zc, hzc⟩ : ∃ z : Int, z = (d.C : Int) := ⟨_, rfl⟩
      obtain ⟨q, hq⟩ : ∃ q : Int, q = z / 2 := ⟨_, rfl⟩
      have HZC : Hid (zc = (d.C : Int)) := hzc
      have HQ : Hid (q = ((d.R / 2 : Nat) : Int)) := by show q = _; omega
      have hzq : z / 2 = q := hq.symm
      have hzq2 : z.tdiv 2 = q := by rw [Int.tdiv_eq_ediv_of_nonneg (by omega)]; omega
      have z1 : 16777216 ≤ z := by omega
      have z2 : z ≤ 4294967295 := by omega
      have q1 : 8388608 ≤ q := by omega
      have q2 : q ≤ 4294967295 := by omega
      have zc1 : 0 ≤ zc := by omega
      have zc2 : zc ≤ 4294967295 := by omega
      rw [← hz] at k2
      obtain ⟨hp1, cp1⟩ := HF.out.put 2 q ⟨d.n, d.R / 2, d.C⟩ (by have := HQ.out; simp only [List.set]; rw [this])
      have HP1 : Hid (Rdc (wr.setCell ⟨f, 2, none⟩ (.int .i64 q)) B f vv bs ⟨d.n, d.R / 2, d.C⟩) := hp1
      have HCP1 : Hid (Chg (fun _ => False) w0 (wr.setCell ⟨f, 2, none⟩ (.int .i64 q))) := HC.out.trans cp1 (fun z e => .inr (by have := HFN.out; omega))
      have HHN : Hid ((Rc.hpartD d).n ≤ bs.length) := by have := HOK.out.n; show (Rc.hpartD d).n ≤ _; unfold Rc.hpartD; split <;> exact this
      have m2_ : (m : Int) < 4294967296 := by omega
      clear kf hp1 cp1 hz hzc hq hlo hhi hlt HF HC k3 hm33
      go_wp2_with fail
      try simp only [hzq]
      generalize wr.setCell ⟨f, 2, none⟩ (.int .i64 q) = W1 at *
      obtain ⟨_, _, y2, y3, _⟩ := rcells4 HP1.out.blk
      replace y2 : W1.cell? ⟨f, 2, none⟩ = some (.int .i64 q) := by have := HQ.out; rw [this]; exact y2
      replace y3 : W1.cell? ⟨f, 3, none⟩ = some (.int .i64 zc) := by have := HZC.out; rw [this]; exact y3
      by_cases hbit : q ≤ zc
      · have HHP : Hid (Rc.hpartD d = ⟨d.n, d.R / 2, d.C - d.R / 2⟩) := by show Rc.hpartD d = _; unfold Rc.hpartD; rw [if_pos (by have := HQ.out; have := HZC.out; omega)]
        have hdb0 : decide (zc < q) = false := by simp; omega
        refine wp_region_last (mk := fun u => #[_, _, _, _, _, _, _, _, _, _, _, _, _, _, _, _, _, _, _, _, _, _, _, _, _, _, _, _, _, _, _, _, _, u 33, u 34, u 35, u 36, u 37, u 38, u 39, u 40, _, _, _, _, _, _, _, _, _, _, _, _, _, _, _, _, _, _, _, _, _, _, _, _, _, _, _, _, _, _, _, _, _, _, _]) (F := fun slot vv ww => (look [(33, .val (.pointer (some ⟨f, 0, none⟩))), (34, .val (.pointer (some ⟨f, 0, none⟩))), (35, .val (.pointer (some ⟨f, 3, none⟩))), (36, .val (.int .i64 zc)), (37, .val (.pointer (some ⟨f, 0, none⟩))), (38, .val (.pointer (some ⟨f, 0, none⟩))), (39, .val (.pointer (some ⟨f, 2, none⟩))), (40, .val (.int .i64 q))] slot).holds vv ww) (fun slot => match slot with | 33 => u33 | 34 => u34 | 35 => u35 | 36 => u36 | 37 => u37 | 38 => u38 | 39 => u39 | 40 => u40 | _ => undef) rfl (by kernel_rfl) 8 _ rfl rfl (by kernel_rfl) ?_ (fun _ v w w' hc h => Fact.stays _ v w w' hc h) ?_ ?_
        · repeat (refine ⟨⟨_, rfl, fun _ _ => rfl⟩, ?_⟩)
          exact trivial
        · refine ⟨?_, ?_, ?_, ?_, ?_, ?_, ?_, ?_, trivial⟩
          · intro u w hc hd K hK -- 33
            clear hd
            go_simp
            exact hK.out (.pointer (some ⟨f, 0, none⟩)) w (Chg.refl _ _) rfl
          · intro u w hc hd K hK -- 34
            have h33 : (Fact.val (.pointer (some ⟨f, 0, none⟩))).holds (u 33) w := hd.get 0 (by kernel_rfl)
            simp only [Fact.holds] at h33
            clear hd
            simp only [h33] at hK
            go_simp
            exact hK.out (.pointer (some ⟨f, 0, none⟩)) w (Chg.refl _ _) rfl
          · intro u w hc hd K hK -- 35
            have h34 : (Fact.val (.pointer (some ⟨f, 0, none⟩))).holds (u 34) w := hd.get 1 (by kernel_rfl)
            simp only [Fact.holds] at h34
            clear hd
            simp only [h34] at hK
            go_simp
            exact hK.out (.pointer (some ⟨f, 3, none⟩)) w (Chg.refl _ _) rfl
          · intro u w hc hd K hK -- 36
            have h35 : (Fact.val (.pointer (some ⟨f, 3, none⟩))).holds (u 35) w := hd.get 2 (by kernel_rfl)
            simp only [Fact.holds] at h35
            clear hd
            simp only [h35] at hK
            have hcell := cell_chg y3 hc
            go_simp
            exact hK.out _ _ (Chg.refl _ _) rfl
          · intro u w hc hd K hK -- 37
            clear hd
            go_simp
            exact hK.out (.pointer (some ⟨f, 0, none⟩)) w (Chg.refl _ _) rfl
          · intro u w hc hd K hK -- 38
            have h37 : (Fact.val (.pointer (some ⟨f, 0, none⟩))).holds (u 37) w := hd.get 4 (by kernel_rfl)
            simp only [Fact.holds] at h37
            clear hd
            simp only [h37] at hK
            go_simp
            exact hK.out (.pointer (some ⟨f, 0, none⟩)) w (Chg.refl _ _) rfl
          · intro u w hc hd K hK -- 39
            have h38 : (Fact.val (.pointer (some ⟨f, 0, none⟩))).holds (u 38) w := hd.get 5 (by kernel_rfl)
            simp only [Fact.holds] at h38
            clear hd
            simp only [h38] at hK
            go_simp
            exact hK.out (.pointer (some ⟨f, 2, none⟩)) w (Chg.refl _ _) rfl
          · intro u w hc hd K hK -- 40
            have h39 : (Fact.val (.pointer (some ⟨f, 2, none⟩))).holds (u 39) w := hd.get 6 (by kernel_rfl)
            simp only [Fact.holds] at h39
            clear hd
            simp only [h39] at hK
            have hcell := cell_chg y2 hc
            go_simp
            exact hK.out _ _ (Chg.refl _ _) rfl
        · intro u w hc hA K hK
          have e36 : u 36 = .int .i64 zc := hA.at 36 (by kernel_rfl)
          have e40 : u 40 = .int .i64 q := hA.at 40 (by kernel_rfl)
          clear hA
          have HPa : Hid (Rdc w B f vv bs ⟨d.n, d.R / 2, d.C⟩) := HP1.out.new hc
          have HCa : Hid (Chg (fun _ => False) w0 w) := chg_then HCP1.out hc
          have y2b := cell_chg y2 hc
          have y3b := cell_chg y3 hc
          clear hc y2 y3 HP1 HCP1
          go_simp
          refine hK.out _ _ ?_
          clear hK e36 e40
          go_wp2_with fail
          generalize w = Wa at *
          refine wp_region_last (mk := fun u => #[_, _, _, _, _, _, _, _, _, _, _, _, _, _, _, _, _, _, _, _, _, _, _, _, _, _, _, _, _, _, _, _, _, _, _, _, _, _, _, _, _, _, u 42, u 43, u 44, u 45, u 46, u 47, u 48, u 49, u 50, u 51, u 52, u 53, _, _, _, _, _, _, _, _, _, _, _, _, _, _, _, _, _, _, _, _, _, _]) (F := fun slot vv ww => (look [(42, .val (.pointer (some ⟨f, 0, none⟩))), (43, .val (.pointer (some ⟨f, 0, none⟩))), (44, .val (.pointer (some ⟨f, 0, none⟩))), (45, .val (.pointer (some ⟨f, 3, none⟩))), (46, .val (.int .i64 zc)), (47, .val (.pointer (some ⟨f, 0, none⟩))), (48, .val (.pointer (some ⟨f, 0, none⟩))), (49, .val (.pointer (some ⟨f, 2, none⟩))), (50, .val (.int .i64 q)), (51, .val (.int .i64 (zc - q))), (52, .val (.pointer (some ⟨f, 0, none⟩))), (53, .val (.pointer (some ⟨f, 3, none⟩)))] slot).holds vv ww) (fun slot => match slot with | 42 => u42 | 43 => u43 | 44 => u44 | 45 => u45 | 46 => u46 | 47 => u47 | 48 => u48 | 49 => u49 | 50 => u50 | 51 => u51 | 52 => u52 | 53 => u53 | _ => undef) rfl (by kernel_rfl) 12 _ rfl rfl (by kernel_rfl) ?_ (fun _ v w w' hc h => Fact.stays _ v w w' hc h) ?_ ?_
          · repeat (refine ⟨⟨_, rfl, fun _ _ => rfl⟩, ?_⟩)
            exact trivial
          · refine ⟨?_, ?_, ?_, ?_, ?_, ?_, ?_, ?_, ?_, ?_, ?_, ?_, trivial⟩
            · intro u w hc hd K hK -- 42
              clear hd
              go_simp
              exact hK.out (.pointer (some ⟨f, 0, none⟩)) w (Chg.refl _ _) rfl
            · intro u w hc hd K hK -- 43
              clear hd
              go_simp
              exact hK.out (.pointer (some ⟨f, 0, none⟩)) w (Chg.refl _ _) rfl
            · intro u w hc hd K hK -- 44
              have h43 : (Fact.val (.pointer (some ⟨f, 0, none⟩))).holds (u 43) w := hd.get 1 (by kernel_rfl)
              simp only [Fact.holds] at h43
              clear hd
              simp only [h43] at hK
              go_simp
              exact hK.out (.pointer (some ⟨f, 0, none⟩)) w (Chg.refl _ _) rfl
            · intro u w hc hd K hK -- 45
              have h44 : (Fact.val (.pointer (some ⟨f, 0, none⟩))).holds (u 44) w := hd.get 2 (by kernel_rfl)
              simp only [Fact.holds] at h44
              clear hd
              simp only [h44] at hK
              go_simp
              exact hK.out (.pointer (some ⟨f, 3, none⟩)) w (Chg.refl _ _) rfl
            · intro u w hc hd K hK -- 46
              have h45 : (Fact.val (.pointer (some ⟨f, 3, none⟩))).holds (u 45) w := hd.get 3 (by kernel_rfl)
              simp only [Fact.holds] at h45
              clear hd
              simp only [h45] at hK
              have hcell := cell_chg y3b hc
              go_simp
              exact hK.out _ _ (Chg.refl _ _) rfl
            · intro u w hc hd K hK -- 47
              clear hd
              go_simp
              exact hK.out (.pointer (some ⟨f, 0, none⟩)) w (Chg.refl _ _) rfl
            · intro u w hc hd K hK -- 48
              have h47 : (Fact.val (.pointer (some ⟨f, 0, none⟩))).holds (u 47) w := hd.get 5 (by kernel_rfl)
              simp only [Fact.holds] at h47
              clear hd
              simp only [h47] at hK
              go_simp
              exact hK.out (.pointer (some ⟨f, 0, none⟩)) w (Chg.refl _ _) rfl
            · intro u w hc hd K hK -- 49
              have h48 : (Fact.val (.pointer (some ⟨f, 0, none⟩))).holds (u 48) w := hd.get 6 (by kernel_rfl)
              simp only [Fact.holds] at h48
              clear hd
              simp only [h48] at hK
              go_simp
              exact hK.out (.pointer (some ⟨f, 2, none⟩)) w (Chg.refl _ _) rfl
            · intro u w hc hd K hK -- 50
              have h49 : (Fact.val (.pointer (some ⟨f, 2, none⟩))).holds (u 49) w := hd.get 7 (by kernel_rfl)
              simp only [Fact.holds] at h49
              clear hd
              simp only [h49] at hK
              have hcell := cell_chg y2b hc
              go_simp
              exact hK.out _ _ (Chg.refl _ _) rfl
            · intro u w hc hd K hK -- 51
              have h46 : (Fact.val (.int .i64 zc)).holds (u 46) w := hd.get 4 (by kernel_rfl)
              simp only [Fact.holds] at h46
              have h50 : (Fact.val (.int .i64 q)).holds (u 50) w := hd.get 8 (by kernel_rfl)
              simp only [Fact.holds] at h50
              clear hd
              simp only [h46, h50] at hK
              go_simp
              first | exact hK.out (.int .i64 (zc - q)) w (Chg.refl _ _) rfl | (rw [wr64 (p := zc - q) (by omega) (by omega)]; exact hK.out (.int .i64 (zc - q)) w (Chg.refl _ _) rfl)
            · intro u w hc hd K hK -- 52
              have h42 : (Fact.val (.pointer (some ⟨f, 0, none⟩))).holds (u 42) w := hd.get 0 (by kernel_rfl)
              simp only [Fact.holds] at h42
              clear hd
              simp only [h42] at hK
              go_simp
              exact hK.out (.pointer (some ⟨f, 0, none⟩)) w (Chg.refl _ _) rfl
            · intro u w hc hd K hK -- 53
              have h52 : (Fact.val (.pointer (some ⟨f, 0, none⟩))).holds (u 52) w := hd.get 10 (by kernel_rfl)
              simp only [Fact.holds] at h52
              clear hd
              simp only [h52] at hK
              go_simp
              exact hK.out (.pointer (some ⟨f, 3, none⟩)) w (Chg.refl _ _) rfl
          · intro u w hc hA K hK
            have e51 : u 51 = .int .i64 (zc - q) := hA.at 51 (by kernel_rfl)
            have e53 : u 53 = .pointer (some ⟨f, 3, none⟩) := hA.at 53 (by kernel_rfl)
            clear hA
            have hPb := HPa.out.new hc
            have w3_ := (rcells4 hPb.blk).2.2.2.1
            have wf3 := (rcells4 hPb.blk).2.2.2.2 3
            obtain ⟨hpc, cpc⟩ := hPb.put 3 (zc - q) (Rc.hpartD d) (by rw [HHP.out]; have := HQ.out; have := HZC.out; simp only [List.set]; rw [show zc - q = ((d.C - d.R / 2 : Nat) : Int) by omega])
            have HP : Hid (Rdc (w.setCell ⟨f, 3, none⟩ (.int .i64 (zc - q))) B f vv bs (Rc.hpartD d)) := hpc
            have HCW : Hid (Chg (fun _ => False) w0 (w.setCell ⟨f, 3, none⟩ (.int .i64 (zc - q)))) := (chg_then HCa.out hc).trans cpc (fun z e => .inr (by have := HFN.out; omega))
            clear hc hPb hpc cpc HPa HCa y2b y3b
            go_simp
            refine hK.out _ _ ?_
            clear hK
            go_upto_region 13 with fail
            clear w3_ wf3
            generalize w.setCell ⟨f, 3, none⟩ (.int .i64 (zc - q)) = W at *
            clear e51 e53
            obtain ⟨_, _, x2, x3, _⟩ := rcells4 HP.out.blk
            rw [HHP.out] at x2 x3
            replace x2 : W.cell? ⟨f, 2, none⟩ = some (.int .i64 q) := by have h9 := HQ.out; rw [h9]; exact x2
            replace x3 : W.cell? ⟨f, 3, none⟩ = some (.int .i64 (zc - q)) := by
              have h9 := HZC.out
              have h8 := HQ.out
              rw [show (zc - q) = ((Rc.D.C ⟨d.n, d.R / 2, d.C - d.R / 2⟩ : Nat) : Int) by show (zc - q) = ((d.C - d.R / 2 : Nat) : Int); omega]
              exact x3
            by_cases hbad : q ≤ (zc - q)
            · have HE : Hid (dirD bs n 0 d0 = .error 2) := by
                show dirD bs n 0 d0 = _
                rw [← HD.out]
                show dirD bs (N1 + 1) m d = _
                rw [dirD, if_pos (by rw [HHP.out]; show d.R / 2 ≤ d.C - d.R / 2; have := HQ.out; have := HZC.out; omega)]
              have hdb : decide ((zc - q) < q) = false := by simp; omega
              go_wp2_with fail
              refine wp_region_last (mk := fun u => #[_, _, _, _, _, _, _, _, _, _, _, _, _, _, _, _, _, _, _, _, _, _, _, _, _, _, _, _, _, _, _, _, _, _, _, _, _, _, _, _, _, _, _, _, _, _, _, _, _, _, _, _, _, _, _, _, u 56, u 57, u 58, u 59, u 60, u 61, u 62, u 63, _, _, _, _, _, _, _, _, _, _, _, _]) (F := fun slot vv ww => (look [(56, .val (.pointer (some ⟨f, 0, none⟩))), (57, .val (.pointer (some ⟨f, 0, none⟩))), (58, .val (.pointer (some ⟨f, 3, none⟩))), (59, .val (.int .i64 (zc - q))), (60, .val (.pointer (some ⟨f, 0, none⟩))), (61, .val (.pointer (some ⟨f, 0, none⟩))), (62, .val (.pointer (some ⟨f, 2, none⟩))), (63, .val (.int .i64 q))] slot).holds vv ww) (fun slot => match slot with | 56 => u56 | 57 => u57 | 58 => u58 | 59 => u59 | 60 => u60 | 61 => u61 | 62 => u62 | 63 => u63 | _ => undef) rfl (by kernel_rfl) 8 _ rfl rfl (by kernel_rfl) ?_ (fun _ v w w' hc h => Fact.stays _ v w w' hc h) ?_ ?_
              · repeat (refine ⟨⟨_, rfl, fun _ _ => rfl⟩, ?_⟩)
                exact trivial
              · refine ⟨?_, ?_, ?_, ?_, ?_, ?_, ?_, ?_, trivial⟩
                · intro u w hc hd K hK -- 56
                  clear hd
                  go_simp
                  exact hK.out (.pointer (some ⟨f, 0, none⟩)) w (Chg.refl _ _) rfl
                · intro u w hc hd K hK -- 57
                  have h56 : (Fact.val (.pointer (some ⟨f, 0, none⟩))).holds (u 56) w := hd.get 0 (by kernel_rfl)
                  simp only [Fact.holds] at h56
                  clear hd
                  simp only [h56] at hK
                  go_simp
                  exact hK.out (.pointer (some ⟨f, 0, none⟩)) w (Chg.refl _ _) rfl
                · intro u w hc hd K hK -- 58
                  have h57 : (Fact.val (.pointer (some ⟨f, 0, none⟩))).holds (u 57) w := hd.get 1 (by kernel_rfl)
                  simp only [Fact.holds] at h57
                  clear hd
                  simp only [h57] at hK
                  go_simp
                  exact hK.out (.pointer (some ⟨f, 3, none⟩)) w (Chg.refl _ _) rfl
                · intro u w hc hd K hK -- 59
                  have h58 : (Fact.val (.pointer (some ⟨f, 3, none⟩))).holds (u 58) w := hd.get 2 (by kernel_rfl)
                  simp only [Fact.holds] at h58
                  clear hd
                  simp only [h58] at hK
                  have hcell := cell_chg x3 hc
                  go_simp
                  exact hK.out _ _ (Chg.refl _ _) rfl
                · intro u w hc hd K hK -- 60
                  clear hd
                  go_simp
                  exact hK.out (.pointer (some ⟨f, 0, none⟩)) w (Chg.refl _ _) rfl
                · intro u w hc hd K hK -- 61
                  have h60 : (Fact.val (.pointer (some ⟨f, 0, none⟩))).holds (u 60) w := hd.get 4 (by kernel_rfl)
                  simp only [Fact.holds] at h60
                  clear hd
                  simp only [h60] at hK
                  go_simp
                  exact hK.out (.pointer (some ⟨f, 0, none⟩)) w (Chg.refl _ _) rfl
                · intro u w hc hd K hK -- 62
                  have h61 : (Fact.val (.pointer (some ⟨f, 0, none⟩))).holds (u 61) w := hd.get 5 (by kernel_rfl)
                  simp only [Fact.holds] at h61
                  clear hd
                  simp only [h61] at hK
                  go_simp
                  exact hK.out (.pointer (some ⟨f, 2, none⟩)) w (Chg.refl _ _) rfl
                · intro u w hc hd K hK -- 63
                  have h62 : (Fact.val (.pointer (some ⟨f, 2, none⟩))).holds (u 62) w := hd.get 6 (by kernel_rfl)
                  simp only [Fact.holds] at h62
                  clear hd
                  simp only [h62] at hK
                  have hcell := cell_chg x2 hc
                  go_simp
                  exact hK.out _ _ (Chg.refl _ _) rfl
              · intro u w hc hA K hK
                have e59 : u 59 = .int .i64 (zc - q) := hA.at 59 (by kernel_rfl)
                have e63 : u 63 = .int .i64 q := hA.at 63 (by kernel_rfl)
                clear hA
                have HC9 : Hid (Chg (fun _ => False) w0 w) := chg_then HCW.out hc
                clear hc
                go_simp
                refine hK.out _ _ ?_
                clear hK
                go_wp2
                go_ret2
                exact .inl ⟨2, HE.out, rfl, HC9.out⟩
            · have HGOOD : Hid (¬ (Rc.hpartD d).R ≤ (Rc.hpartD d).C) := by show ¬ _; rw [HHP.out]; show ¬ d.R / 2 ≤ d.C - d.R / 2; have := HQ.out; have := HZC.out; omega
              have hdb : decide (q ≤ (zc - q)) = false := by simp; omega
              go_wp2_with fail
              refine wp_region_last (mk := fun u => #[_, _, _, _, _, _, _, _, _, _, _, _, _, _, _, _, _, _, _, _, _, _, _, _, _, _, _, _, _, _, _, _, _, _, _, _, _, _, _, _, _, _, _, _, _, _, _, _, _, _, _, _, _, _, _, _, u 56, u 57, u 58, u 59, u 60, u 61, u 62, u 63, _, _, _, _, _, _, _, _, _, _, _, _]) (F := fun slot vv ww => (look [(56, .val (.pointer (some ⟨f, 0, none⟩))), (57, .val (.pointer (some ⟨f, 0, none⟩))), (58, .val (.pointer (some ⟨f, 3, none⟩))), (59, .val (.int .i64 (zc - q))), (60, .val (.pointer (some ⟨f, 0, none⟩))), (61, .val (.pointer (some ⟨f, 0, none⟩))), (62, .val (.pointer (some ⟨f, 2, none⟩))), (63, .val (.int .i64 q))] slot).holds vv ww) (fun slot => match slot with | 56 => u56 | 57 => u57 | 58 => u58 | 59 => u59 | 60 => u60 | 61 => u61 | 62 => u62 | 63 => u63 | _ => undef) rfl (by kernel_rfl) 8 _ rfl rfl (by kernel_rfl) ?_ (fun _ v w w' hc h => Fact.stays _ v w w' hc h) ?_ ?_
              · repeat (refine ⟨⟨_, rfl, fun _ _ => rfl⟩, ?_⟩)
                exact trivial
              · refine ⟨?_, ?_, ?_, ?_, ?_, ?_, ?_, ?_, trivial⟩
                · intro u w hc hd K hK -- 56
                  clear hd
                  go_simp
                  exact hK.out (.pointer (some ⟨f, 0, none⟩)) w (Chg.refl _ _) rfl
                · intro u w hc hd K hK -- 57
                  have h56 : (Fact.val (.pointer (some ⟨f, 0, none⟩))).holds (u 56) w := hd.get 0 (by kernel_rfl)
                  simp only [Fact.holds] at h56
                  clear hd
                  simp only [h56] at hK
                  go_simp
                  exact hK.out (.pointer (some ⟨f, 0, none⟩)) w (Chg.refl _ _) rfl
                · intro u w hc hd K hK -- 58
                  have h57 : (Fact.val (.pointer (some ⟨f, 0, none⟩))).holds (u 57) w := hd.get 1 (by kernel_rfl)
                  simp only [Fact.holds] at h57
                  clear hd
                  simp only [h57] at hK
                  go_simp
                  exact hK.out (.pointer (some ⟨f, 3, none⟩)) w (Chg.refl _ _) rfl
                · intro u w hc hd K hK -- 59
                  have h58 : (Fact.val (.pointer (some ⟨f, 3, none⟩))).holds (u 58) w := hd.get 2 (by kernel_rfl)
                  simp only [Fact.holds] at h58
                  clear hd
                  simp only [h58] at hK
                  have hcell := cell_chg x3 hc
                  go_simp
                  exact hK.out _ _ (Chg.refl _ _) rfl
                · intro u w hc hd K hK -- 60
                  clear hd
                  go_simp
                  exact hK.out (.pointer (some ⟨f, 0, none⟩)) w (Chg.refl _ _) rfl
                · intro u w hc hd K hK -- 61
                  have h60 : (Fact.val (.pointer (some ⟨f, 0, none⟩))).holds (u 60) w := hd.get 4 (by kernel_rfl)
                  simp only [Fact.holds] at h60
                  clear hd
                  simp only [h60] at hK
                  go_simp
                  exact hK.out (.pointer (some ⟨f, 0, none⟩)) w (Chg.refl _ _) rfl
                · intro u w hc hd K hK -- 62
                  have h61 : (Fact.val (.pointer (some ⟨f, 0, none⟩))).holds (u 61) w := hd.get 5 (by kernel_rfl)
                  simp only [Fact.holds] at h61
                  clear hd
                  simp only [h61] at hK
                  go_simp
                  exact hK.out (.pointer (some ⟨f, 2, none⟩)) w (Chg.refl _ _) rfl
                · intro u w hc hd K hK -- 63
                  have h62 : (Fact.val (.pointer (some ⟨f, 2, none⟩))).holds (u 62) w := hd.get 6 (by kernel_rfl)
                  simp only [Fact.holds] at h62
                  clear hd
                  simp only [h62] at hK
                  have hcell := cell_chg x2 hc
                  go_simp
                  exact hK.out _ _ (Chg.refl _ _) rfl
              · intro u w hc hA K hK
                have e59 : u 59 = .int .i64 (zc - q) := hA.at 59 (by kernel_rfl)
                have e63 : u 63 = .int .i64 q := hA.at 63 (by kernel_rfl)
                clear hA
                have HP2 : Hid (Rdc w B f vv bs (Rc.hpartD d)) := HP.out.new hc
                have HC2 : Hid (Chg (fun _ => False) w0 w) := chg_then HCW.out hc
                clear hc
                go_simp
                refine hK.out _ _ ?_
                clear hK x2 x3
                go_wp2_with fail
                refine (rdwiden_any B f vv bs (Rc.hpartD d) _ HP2.out (by have := HGOOD.out; omega) HHN.out hl).mono ?_
                rintro z9 w4 (⟨d', hd', rfl, h4, c4⟩ | ⟨hd', rfl, c4⟩)
                · have HP4 : Hid (Rdc w4 B f vv bs d') := h4
                  have HC4 : Hid (Chg (fun _ => False) w0 w4) := HC2.out.trans c4 (fun z e => .inr (by have := HFN.out; omega))
                  have HD4 : Hid (dirD bs N1 (2 * m + 1) d' = dirD bs n 0 d0) := by
                    show dirD bs N1 (2 * m + 1) d' = _
                    rw [← HD.out]
                    show _ = dirD bs (N1 + 1) m d
                    rw [dirD, if_neg HGOOD.out, hd']
                    rw [if_pos (by have := HQ.out; have := HZC.out; omega)]
                    
                  have HO4 : Hid (OkD bs d') := okd_half HDIG.out HOK.out HGOOD.out hd'
                  have HM4 : Hid (2 * m + 1 < 2 ^ (i + 1)) := by have := HM.out; show _ < _; rw [Nat.pow_succ]; omega
                  clear h4 c4 hd' HP2 HC2
                  go_wp2
                  go_roundw
                  case rel => exact ⟨i + 1, 2 * m + 1, d', by omega, by go_num, by go_num, HP4.out, HO4.out, by rw [show n - (i + 1) = N1 by omega]; exact HD4.out, HM4.out, HC4.out⟩
                  case measure => simp [intOf]; omega
                · have HE : Hid (dirD bs n 0 d0 = .error 1) := by
                    show dirD bs n 0 d0 = _
                    rw [← HD.out]
                    show dirD bs (N1 + 1) m d = _
                    rw [dirD, if_neg HGOOD.out, hd']
                  have HC4 : Hid (Chg (fun _ => False) w0 w4) := chg_then HC2.out c4
                  clear c4 hd' HP2 HC2
                  go_wp2
                  go_ret2
                  exact .inl ⟨1, HE.out, rfl, HC4.out⟩
      · have HHP : Hid (Rc.hpartD d = ⟨d.n, d.R / 2, d.C⟩) := by show Rc.hpartD d = _; unfold Rc.hpartD; rw [if_neg (by have := HQ.out; have := HZC.out; omega)]
        have hdb0 : decide (q ≤ zc) = false := by simp; omega
        refine wp_region_last (mk := fun u => #[_, _, _, _, _, _, _, _, _, _, _, _, _, _, _, _, _, _, _, _, _, _, _, _, _, _, _, _, _, _, _, _, _, u 33, u 34, u 35, u 36, u 37, u 38, u 39, u 40, _, _, _, _, _, _, _, _, _, _, _, _, _, _, _, _, _, _, _, _, _, _, _, _, _, _, _, _, _, _, _, _, _, _, _]) (F := fun slot vv ww => (look [(33, .val (.pointer (some ⟨f, 0, none⟩))), (34, .val (.pointer (some ⟨f, 0, none⟩))), (35, .val (.pointer (some ⟨f, 3, none⟩))), (36, .val (.int .i64 zc)), (37, .val (.pointer (some ⟨f, 0, none⟩))), (38, .val (.pointer (some ⟨f, 0, none⟩))), (39, .val (.pointer (some ⟨f, 2, none⟩))), (40, .val (.int .i64 q))] slot).holds vv ww) (fun slot => match slot with | 33 => u33 | 34 => u34 | 35 => u35 | 36 => u36 | 37 => u37 | 38 => u38 | 39 => u39 | 40 => u40 | _ => undef) rfl (by kernel_rfl) 8 _ rfl rfl (by kernel_rfl) ?_ (fun _ v w w' hc h => Fact.stays _ v w w' hc h) ?_ ?_
        · repeat (refine ⟨⟨_, rfl, fun _ _ => rfl⟩, ?_⟩)
          exact trivial
        · refine ⟨?_, ?_, ?_, ?_, ?_, ?_, ?_, ?_, trivial⟩
          · intro u w hc hd K hK -- 33
            clear hd
            go_simp
            exact hK.out (.pointer (some ⟨f, 0, none⟩)) w (Chg.refl _ _) rfl
          · intro u w hc hd K hK -- 34
            have h33 : (Fact.val (.pointer (some ⟨f, 0, none⟩))).holds (u 33) w := hd.get 0 (by kernel_rfl)
            simp only [Fact.holds] at h33
            clear hd
            simp only [h33] at hK
            go_simp
            exact hK.out (.pointer (some ⟨f, 0, none⟩)) w (Chg.refl _ _) rfl
          · intro u w hc hd K hK -- 35
            have h34 : (Fact.val (.pointer (some ⟨f, 0, none⟩))).holds (u 34) w := hd.get 1 (by kernel_rfl)
            simp only [Fact.holds] at h34
            clear hd
            simp only [h34] at hK
            go_simp
            exact hK.out (.pointer (some ⟨f, 3, none⟩)) w (Chg.refl _ _) rfl
          · intro u w hc hd K hK -- 36
            have h35 : (Fact.val (.pointer (some ⟨f, 3, none⟩))).holds (u 35) w := hd.get 2 (by kernel_rfl)
            simp only [Fact.holds] at h35
            clear hd
            simp only [h35] at hK
            have hcell := cell_chg y3 hc
            go_simp
            exact hK.out _ _ (Chg.refl _ _) rfl
          · intro u w hc hd K hK -- 37
            clear hd
            go_simp
            exact hK.out (.pointer (some ⟨f, 0, none⟩)) w (Chg.refl _ _) rfl
          · intro u w hc hd K hK -- 38
            have h37 : (Fact.val (.pointer (some ⟨f, 0, none⟩))).holds (u 37) w := hd.get 4 (by kernel_rfl)
            simp only [Fact.holds] at h37
            clear hd
            simp only [h37] at hK
            go_simp
            exact hK.out (.pointer (some ⟨f, 0, none⟩)) w (Chg.refl _ _) rfl
          · intro u w hc hd K hK -- 39
            have h38 : (Fact.val (.pointer (some ⟨f, 0, none⟩))).holds (u 38) w := hd.get 5 (by kernel_rfl)
            simp only [Fact.holds] at h38
            clear hd
            simp only [h38] at hK
            go_simp
            exact hK.out (.pointer (some ⟨f, 2, none⟩)) w (Chg.refl _ _) rfl
          · intro u w hc hd K hK -- 40
            have h39 : (Fact.val (.pointer (some ⟨f, 2, none⟩))).holds (u 39) w := hd.get 6 (by kernel_rfl)
            simp only [Fact.holds] at h39
            clear hd
            simp only [h39] at hK
            have hcell := cell_chg y2 hc
            go_simp
            exact hK.out _ _ (Chg.refl _ _) rfl
        · intro u w hc hA K hK
          have e36 : u 36 = .int .i64 zc := hA.at 36 (by kernel_rfl)
          have e40 : u 40 = .int .i64 q := hA.at 40 (by kernel_rfl)
          clear hA
          have HP : Hid (Rdc w B f vv bs (Rc.hpartD d)) := by show Rdc _ _ _ _ _ _; rw [HHP.out]; exact HP1.out.new hc
          have HCW : Hid (Chg (fun _ => False) w0 w) := chg_then HCP1.out hc
          clear hc y2 y3 HP1 HCP1
          go_simp
          refine hK.out _ _ ?_
          clear hK e36 e40
          go_upto_region 13 with fail
          generalize w = W at *
          obtain ⟨_, _, x2, x3, _⟩ := rcells4 HP.out.blk
          rw [HHP.out] at x2 x3
          replace x2 : W.cell? ⟨f, 2, none⟩ = some (.int .i64 q) := by have h9 := HQ.out; rw [h9]; exact x2
          replace x3 : W.cell? ⟨f, 3, none⟩ = some (.int .i64 zc) := by
            have h9 := HZC.out
            have h8 := HQ.out
            rw [show zc = ((Rc.D.C ⟨d.n, d.R / 2, d.C⟩ : Nat) : Int) by show zc = ((d.C : Nat) : Int); omega]
            exact x3
          by_cases hbad : q ≤ zc
          · have HE : Hid (dirD bs n 0 d0 = .error 2) := by
              show dirD bs n 0 d0 = _
              rw [← HD.out]
              show dirD bs (N1 + 1) m d = _
              rw [dirD, if_pos (by rw [HHP.out]; show d.R / 2 ≤ d.C; have := HQ.out; have := HZC.out; omega)]
            have hdb : decide (zc < q) = false := by simp; omega
            go_wp2_with fail
            refine wp_region_last (mk := fun u => #[_, _, _, _, _, _, _, _, _, _, _, _, _, _, _, _, _, _, _, _, _, _, _, _, _, _, _, _, _, _, _, _, _, _, _, _, _, _, _, _, _, _, _, _, _, _, _, _, _, _, _, _, _, _, _, _, u 56, u 57, u 58, u 59, u 60, u 61, u 62, u 63, _, _, _, _, _, _, _, _, _, _, _, _]) (F := fun slot vv ww => (look [(56, .val (.pointer (some ⟨f, 0, none⟩))), (57, .val (.pointer (some ⟨f, 0, none⟩))), (58, .val (.pointer (some ⟨f, 3, none⟩))), (59, .val (.int .i64 zc)), (60, .val (.pointer (some ⟨f, 0, none⟩))), (61, .val (.pointer (some ⟨f, 0, none⟩))), (62, .val (.pointer (some ⟨f, 2, none⟩))), (63, .val (.int .i64 q))] slot).holds vv ww) (fun slot => match slot with | 56 => u56 | 57 => u57 | 58 => u58 | 59 => u59 | 60 => u60 | 61 => u61 | 62 => u62 | 63 => u63 | _ => undef) rfl (by kernel_rfl) 8 _ rfl rfl (by kernel_rfl) ?_ (fun _ v w w' hc h => Fact.stays _ v w w' hc h) ?_ ?_
            · repeat (refine ⟨⟨_, rfl, fun _ _ => rfl⟩, ?_⟩)
              exact trivial
            · refine ⟨?_, ?_, ?_, ?_, ?_, ?_, ?_, ?_, trivial⟩
              · intro u w hc hd K hK -- 56
                clear hd
                go_simp
                exact hK.out (.pointer (some ⟨f, 0, none⟩)) w (Chg.refl _ _) rfl
              · intro u w hc hd K hK -- 57
                have h56 : (Fact.val (.pointer (some ⟨f, 0, none⟩))).holds (u 56) w := hd.get 0 (by kernel_rfl)
                simp only [Fact.holds] at h56
                clear hd
                simp only [h56] at hK
                go_simp
                exact hK.out (.pointer (some ⟨f, 0, none⟩)) w (Chg.refl _ _) rfl
              · intro u w hc hd K hK -- 58
                have h57 : (Fact.val (.pointer (some ⟨f, 0, none⟩))).holds (u 57) w := hd.get 1 (by kernel_rfl)
                simp only [Fact.holds] at h57
                clear hd
                simp only [h57] at hK
                go_simp
                exact hK.out (.pointer (some ⟨f, 3, none⟩)) w (Chg.refl _ _) rfl
              · intro u w hc hd K hK -- 59
                have h58 : (Fact.val (.pointer (some ⟨f, 3, none⟩))).holds (u 58) w := hd.get 2 (by kernel_rfl)
                simp only [Fact.holds] at h58
                clear hd
                simp only [h58] at hK
                have hcell := cell_chg x3 hc
                go_simp
                exact hK.out _ _ (Chg.refl _ _) rfl
              · intro u w hc hd K hK -- 60
                clear hd
                go_simp
                exact hK.out (.pointer (some ⟨f, 0, none⟩)) w (Chg.refl _ _) rfl
              · intro u w hc hd K hK -- 61
                have h60 : (Fact.val (.pointer (some ⟨f, 0, none⟩))).holds (u 60) w := hd.get 4 (by kernel_rfl)
                simp only [Fact.holds] at h60
                clear hd
                simp only [h60] at hK
                go_simp
                exact hK.out (.pointer (some ⟨f, 0, none⟩)) w (Chg.refl _ _) rfl
              · intro u w hc hd K hK -- 62
                have h61 : (Fact.val (.pointer (some ⟨f, 0, none⟩))).holds (u 61) w := hd.get 5 (by kernel_rfl)
                simp only [Fact.holds] at h61
                clear hd
                simp only [h61] at hK
                go_simp
                exact hK.out (.pointer (some ⟨f, 2, none⟩)) w (Chg.refl _ _) rfl
              · intro u w hc hd K hK -- 63
                have h62 : (Fact.val (.pointer (some ⟨f, 2, none⟩))).holds (u 62) w := hd.get 6 (by kernel_rfl)
                simp only [Fact.holds] at h62
                clear hd
                simp only [h62] at hK
                have hcell := cell_chg x2 hc
                go_simp
                exact hK.out _ _ (Chg.refl _ _) rfl
            · intro u w hc hA K hK
              have e59 : u 59 = .int .i64 zc := hA.at 59 (by kernel_rfl)
              have e63 : u 63 = .int .i64 q := hA.at 63 (by kernel_rfl)
              clear hA
              have HC9 : Hid (Chg (fun _ => False) w0 w) := chg_then HCW.out hc
              clear hc
              go_simp
              refine hK.out _ _ ?_
              clear hK
              go_wp2
              go_ret2
              exact .inl ⟨2, HE.out, rfl, HC9.out⟩
          · have HGOOD : Hid (¬ (Rc.hpartD d).R ≤ (Rc.hpartD d).C) := by show ¬ _; rw [HHP.out]; show ¬ d.R / 2 ≤ d.C; have := HQ.out; have := HZC.out; omega
            have hdb : decide (q ≤ zc) = false := by simp; omega
            go_wp2_with fail
            refine wp_region_last (mk := fun u => #[_, _, _, _, _, _, _, _, _, _, _, _, _, _, _, _, _, _, _, _, _, _, _, _, _, _, _, _, _, _, _, _, _, _, _, _, _, _, _, _, _, _, _, _, _, _, _, _, _, _, _, _, _, _, _, _, u 56, u 57, u 58, u 59, u 60, u 61, u 62, u 63, _, _, _, _, _, _, _, _, _, _, _, _]) (F := fun slot vv ww => (look [(56, .val (.pointer (some ⟨f, 0, none⟩))), (57, .val (.pointer (some ⟨f, 0, none⟩))), (58, .val (.pointer (some ⟨f, 3, none⟩))), (59, .val (.int .i64 zc)), (60, .val (.pointer (some ⟨f, 0, none⟩))), (61, .val (.pointer (some ⟨f, 0, none⟩))), (62, .val (.pointer (some ⟨f, 2, none⟩))), (63, .val (.int .i64 q))] slot).holds vv ww) (fun slot => match slot with | 56 => u56 | 57 => u57 | 58 => u58 | 59 => u59 | 60 => u60 | 61 => u61 | 62 => u62 | 63 => u63 | _ => undef) rfl (by kernel_rfl) 8 _ rfl rfl (by kernel_rfl) ?_ (fun _ v w w' hc h => Fact.stays _ v w w' hc h) ?_ ?_
            · repeat (refine ⟨⟨_, rfl, fun _ _ => rfl⟩, ?_⟩)
              exact trivial
            · refine ⟨?_, ?_, ?_, ?_, ?_, ?_, ?_, ?_, trivial⟩
              · intro u w hc hd K hK -- 56
                clear hd
                go_simp
                exact hK.out (.pointer (some ⟨f, 0, none⟩)) w (Chg.refl _ _) rfl
              · intro u w hc hd K hK -- 57
                have h56 : (Fact.val (.pointer (some ⟨f, 0, none⟩))).holds (u 56) w := hd.get 0 (by kernel_rfl)
                simp only [Fact.holds] at h56
                clear hd
                simp only [h56] at hK
                go_simp
                exact hK.out (.pointer (some ⟨f, 0, none⟩)) w (Chg.refl _ _) rfl
              · intro u w hc hd K hK -- 58
                have h57 : (Fact.val (.pointer (some ⟨f, 0, none⟩))).holds (u 57) w := hd.get 1 (by kernel_rfl)
                simp only [Fact.holds] at h57
                clear hd
                simp only [h57] at hK
                go_simp
                exact hK.out (.pointer (some ⟨f, 3, none⟩)) w (Chg.refl _ _) rfl
              · intro u w hc hd K hK -- 59
                have h58 : (Fact.val (.pointer (some ⟨f, 3, none⟩))).holds (u 58) w := hd.get 2 (by kernel_rfl)
                simp only [Fact.holds] at h58
                clear hd
                simp only [h58] at hK
                have hcell := cell_chg x3 hc
                go_simp
                exact hK.out _ _ (Chg.refl _ _) rfl
              · intro u w hc hd K hK -- 60
                clear hd
                go_simp
                exact hK.out (.pointer (some ⟨f, 0, none⟩)) w (Chg.refl _ _) rfl
              · intro u w hc hd K hK -- 61
                have h60 : (Fact.val (.pointer (some ⟨f, 0, none⟩))).holds (u 60) w := hd.get 4 (by kernel_rfl)
                simp only [Fact.holds] at h60
                clear hd
                simp only [h60] at hK
                go_simp
                exact hK.out (.pointer (some ⟨f, 0, none⟩)) w (Chg.refl _ _) rfl
              · intro u w hc hd K hK -- 62
                have h61 : (Fact.val (.pointer (some ⟨f, 0, none⟩))).holds (u 61) w := hd.get 5 (by kernel_rfl)
                simp only [Fact.holds] at h61
                clear hd
                simp only [h61] at hK
                go_simp
                exact hK.out (.pointer (some ⟨f, 2, none⟩)) w (Chg.refl _ _) rfl
              · intro u w hc hd K hK -- 63
                have h62 : (Fact.val (.pointer (some ⟨f, 2, none⟩))).holds (u 62) w := hd.get 6 (by kernel_rfl)
                simp only [Fact.holds] at h62
                clear hd
                simp only [h62] at hK
                have hcell := cell_chg x2 hc
                go_simp
                exact hK.out _ _ (Chg.refl _ _) rfl
            · intro u w hc hA K hK
              have e59 : u 59 = .int .i64 zc := hA.at 59 (by kernel_rfl)
              have e63 : u 63 = .int .i64 q := hA.at 63 (by kernel_rfl)
              clear hA
              have HP2 : Hid (Rdc w B f vv bs (Rc.hpartD d)) := HP.out.new hc
              have HC2 : Hid (Chg (fun _ => False) w0 w) := chg_then HCW.out hc
              clear hc
              go_simp
              refine hK.out _ _ ?_
              clear hK x2 x3
              go_wp2_with fail
              refine (rdwiden_any B f vv bs (Rc.hpartD d) _ HP2.out (by have := HGOOD.out; omega) HHN.out hl).mono ?_
              rintro z9 w4 (⟨d', hd', rfl, h4, c4⟩ | ⟨hd', rfl, c4⟩)
              · have HP4 : Hid (Rdc w4 B f vv bs d') := h4
                have HC4 : Hid (Chg (fun _ => False) w0 w4) := HC2.out.trans c4 (fun z e => .inr (by have := HFN.out; omega))
                have HD4 : Hid (dirD bs N1 (2 * m) d' = dirD bs n 0 d0) := by
                  show dirD bs N1 (2 * m) d' = _
                  rw [← HD.out]
                  show _ = dirD bs (N1 + 1) m d
                  rw [dirD, if_neg HGOOD.out, hd']
                  rw [if_neg (by have := HQ.out; have := HZC.out; omega)]
                  rw [Nat.add_zero]
                have HO4 : Hid (OkD bs d') := okd_half HDIG.out HOK.out HGOOD.out hd'
                have HM4 : Hid (2 * m < 2 ^ (i + 1)) := by have := HM.out; show _ < _; rw [Nat.pow_succ]; omega
                clear h4 c4 hd' HP2 HC2
                go_wp2
                go_roundw
                case rel => exact ⟨i + 1, 2 * m, d', by omega, by go_num, by go_num, HP4.out, HO4.out, by rw [show n - (i + 1) = N1 by omega]; exact HD4.out, HM4.out, HC4.out⟩
                case measure => simp [intOf]; omega
              · have HE : Hid (dirD bs n 0 d0 = .error 1) := by
                  show dirD bs n 0 d0 = _
                  rw [← HD.out]
                  show dirD bs (N1 + 1) m d = _
                  rw [dirD, if_neg HGOOD.out, hd']
                have HC4 : Hid (Chg (fun _ => False) w0 w4) := chg_then HC2.out c4
                clear c4 hd' HP2 HC2
                go_wp2
                go_ret2
                exact .inl ⟨1, HE.out, rfl, HC4.out⟩
    · obtain rfl : i = n := by omega
      have hE : dirD bs i 0 d0 = .ok (m, d) := by rw [← HD.out, Nat.sub_self]; rfl
      have HE : Hid (dirD bs i 0 d0 = .ok (m, d)) := hE
      have hdi : decide ((i : Int) < (i : Int)) = false := by simp
      have hvv : vv = .slice ad L cap := by rw [HVV.out]; exact HV.out
      have HR4 := HH.out.new HC.out
      rw [hvv] at HF
      rw [HV.out] at HR4
      obtain ⟨y0, y1, y2, y3, _⟩ := rcells4 HF.out.blk
      obtain ⟨x0, x1, x2, x3, xf⟩ := rcells4 HR4.blk
      have xf0 := xf 0
      have xf1 := xf 1
      have xf2 := xf 2
      have xf3 := xf 3
      obtain ⟨hc5, cc5⟩ := HR4.copy (d' := d) (d.n : Int) (d.R : Int) (d.C : Int) rfl rfl rfl
      have H5 : Hid (Rdc ((((wr.setCell ⟨r, 0, none⟩ (.slice ad L cap)).setCell ⟨r, 1, none⟩ (.int .i64 (d.n : Int))).setCell ⟨r, 2, none⟩ (.int .i64 (d.R : Int))).setCell ⟨r, 3, none⟩ (.int .i64 (d.C : Int))) B r v bs d) := by show Rdc _ _ _ _ _ _; rw [HV.out]; exact hc5
      have HC5 : Hid (Chg (fun z => z = r) w0 ((((wr.setCell ⟨r, 0, none⟩ (.slice ad L cap)).setCell ⟨r, 1, none⟩ (.int .i64 (d.n : Int))).setCell ⟨r, 2, none⟩ (.int .i64 (d.R : Int))).setCell ⟨r, 3, none⟩ (.int .i64 (d.C : Int)))) := (HC.out.mono (fun _ e => e.elim)).trans cc5 (fun _ e => .inl e)
      have hfr : f ≠ r := by have := HFN.out; have := lt_of_blk HH.out.blk; omega
      have hwm : IntKind.u32.wrap (m : Int) = (m : Int) := by simp [IntKind.wrap, IntKind.signed, IntKind.bits]; omega
      clear hE hvv HR4 hc5 cc5 xf HF HC
      go_wp2
      go_ret2
      exact .inr ⟨m, d, HE.out, HM.out, HOK.out, rfl, H5.out, HC5.out⟩
end Go.Proofs.Ytejopgopcocapaa
