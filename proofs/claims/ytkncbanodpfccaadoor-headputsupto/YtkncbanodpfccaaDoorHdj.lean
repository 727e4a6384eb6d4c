/- The document's Put of headers; of no statement by itself. -/
import Derived.Test.YtkncbanodpfccaaDoorHdi
import Derived.Deep.DeepCutAuto
namespace Go.Proofs.YtkncbanodpfccaaDoor
open Go.RowKit
open St12
set_option linter.unusedVariables false
set_option linter.unusedSimpArgs false
theorem putAll_err {f : Flt} {r : List Flt} (h : (Cn20.putF f).2 ≠ 0) : (Hd21.putAll (f :: r)).2 = (Cn20.putF f).2 := by rw [Hd21.putAll, if_pos h]
theorem putAll_step {f : Flt} {r : List Flt} (h : (Cn20.putF f).2 = 0) : (Hd21.putAll (f :: r)).2 = (Hd21.putAll r).2 ∧ ((Hd21.putAll r).2 = 0 → (Hd21.putAll (f :: r)).1 = (Cn20.putF f).1 ++ (Hd21.putAll r).1) := by
  rw [Hd21.putAll, if_neg (by simpa using h)]
  by_cases e : (Hd21.putAll r).2 = 0
  · rw [if_neg (by simpa using e)]
    exact ⟨e.symm, fun _ => rfl⟩
  · rw [if_pos e]
    exact ⟨rfl, fun f => absurd f e⟩
theorem putF_len (f : Flt) : (Cn20.putF f).1.length ≤ 18 + f.ps.length := by
  by_cases h : f.id ≤ 9223372036854775807
  · rw [Cn20.put_ok h]
    have h1 := vbn_le f.id
    have h2 := vbn_le f.ps.length
    simp only [List.length_append]
    omega
  · unfold Cn20.putF
    rw [if_pos (by omega)]
    exact Nat.zero_le _
theorem need_is (n : Nat) : Hd21.need n ≤ 3 ∧ ∀ j, j ≤ Hd21.need n → ((n + j) % 4 = 2 ↔ j = Hd21.need n) := by
  unfold Hd21.need
  exact ⟨by omega, fun j hj => by omega⟩
def lenV : Value → Nat
  | .slice _ n _ => n
  | _ => 0
theorem flags_is {pk sz : Int} {fn fl : Nat} {F1 : Int} (h : 1 ≤ fn) (h1 : (fn : Int) - 1 + (if pk = -1 then 0 else 64) = F1) (h2 : F1 + (if sz = -1 then 0 else 128) = (fl : Int)) : fl = Hd21.flags pk sz fn := by
  unfold Hd21.flags
  subst h1
  by_cases a : pk = -1 <;> by_cases b : sz = -1 <;> simp [a, b] at h2 ⊢ <;> omega
theorem told_len (v : Int) : (Hd21.told v).length ≤ 9 := by
  unfold Hd21.told
  split
  · exact Nat.zero_le _
  · exact (vbn_le _).2
theorem byO_lit2 (w : World) (x y : Nat) : ByO (w.alloc (.cells #[.int .u8 (x : Int), .int .u8 (y : Int)] 5)) w.heap.size (.slice (some ⟨w.heap.size, 0, none⟩) 2 2) [x, y] := by
  have h := World.ownsRow_lit (base := w.heap.size) (e := 5) (size := 1) w #[.int .u8 (x : Int), .int .u8 (y : Int)] 2 (Nat.le_refl _) (by decide) rfl
  exact h
set_option maxHeartbeats 32000000 in
set_option maxRecDepth 100000 in
theorem rput21_any (pk sz by_ pad : Int) (fa : Option Addr) (fn fc : Nat) (l : List FlV) (w0 : World) (i1 : I64 pk) (i2 : I64 sz) (i3 : I64 by_) (i4 : I64 pad) (hf : FlL w0 fa l) (hfl : l.length = fn) (hfn : fn ≤ 1048576) (hxn : ∀ (k : Nat) (x : FlV), l[k]? = some x → x.n ≤ 1048576) : Calls Tryd.prog 15 #[hdv pk sz (.slice fa fn fc) by_, .int .i64 pad] w0 fun e w' => ∃ ov, e = .returned (.tuple #[ov, .int .i64 (Hd21.putH ⟨pk, sz, l.map FlV.f, by_⟩ pad).2]) ∧ ByO w' w0.heap.size ov (Hd21.putH ⟨pk, sz, l.map FlV.f, by_⟩ pad).1 ∧ Chg (fun _ => False) w0 w' := by
  obtain ⟨iu, hiu, hu0, hu1, hu2⟩ := info_parts info5u
  have cA := chg_one w0 (.cells #[.int .i64 pk, .int .i64 sz, .slice fa fn fc, .int .i64 by_] 24)
  have bA := heap_alloc_last w0 (.cells #[.int .i64 pk, .int .i64 sz, .slice fa fn fc, .int .i64 by_] 24)
  obtain ⟨x0, x1, x2, x3⟩ := cells4h bA
  have HF : Hid (FlL (w0.alloc (.cells #[.int .i64 pk, .int .i64 sz, .slice fa fn fc, .int .i64 by_] 24)) fa l) := hf.new cA
  have HXN : Hid (∀ (k : Nat) (x : FlV), l[k]? = some x → x.n ≤ 1048576) := hxn
  have HFL : Hid (l.length = fn) := hfl
  have HCA : Hid (Chg (fun _ => False) w0 (w0.alloc (.cells #[.int .i64 pk, .int .i64 sz, .slice fa fn fc, .int .i64 by_] 24))) := cA
  obtain ⟨ia, ib⟩ := i1
  obtain ⟨ic, id_⟩ := i2
  obtain ⟨ig, ih⟩ := i4
  obtain ⟨B, hB⟩ : ∃ B : Bool, decide ((pk ≠ -1 ∧ pk < 1) ∨ sz < -1 ∨ pad < 0) = B := ⟨_, rfl⟩
  have HB : Hid (decide ((pk ≠ -1 ∧ pk < 1) ∨ sz < -1 ∨ pad < 0) = B) := hB
  have HE : Hid (Hd21.putE ⟨pk, sz, l.map FlV.f, by_⟩ pad = if (pk ≠ -1 ∧ pk < 1) ∨ sz < -1 ∨ pad < 0 then 7 else if fn < 1 ∨ 4 < fn then 6 else if (Hd21.putAll (l.map FlV.f)).2 ≠ 0 then (Hd21.putAll (l.map FlV.f)).2 else if 1018 < ((Hd21.room0 ⟨pk, sz, l.map FlV.f, by_⟩).length + Hd21.need (Hd21.room0 ⟨pk, sz, l.map FlV.f, by_⟩).length : Nat) + 4 * pad then 7 else 0) := by
    show _ = _
    unfold Hd21.putE
    simp only [List.length_map, hfl]
  have HN : Hid (∀ e : Int, e ≠ 0 → Hd21.putE ⟨pk, sz, l.map FlV.f, by_⟩ pad = e → Hd21.putH ⟨pk, sz, l.map FlV.f, by_⟩ pad = ([], e)) := fun e h1 h2 => by
    unfold Hd21.putH
    rw [if_pos (by rw [h2]; exact h1), h2]
  unfold hdv
  clear hf hfl hxn i3 hB cA bA
  go_enter Tryd.func15, Tryd.ntmps15
  go_upto_region 1 with fail
  generalize w0.alloc (.cells #[.int .i64 pk, .int .i64 sz, .slice fa fn fc, .int .i64 by_] 24) = w1 at *
  have HX2 : Hid (w1.cell? ⟨w0.heap.size, 2, none⟩ = some (.slice fa fn fc)) := x2
  go_cut [33] (fun bv wx => bv = .bool B ∧ w1 = wx)
  case first =>
    by_cases k1 : pk = -1
    · have e1 : (pk != -1) = false := by simp [k1]
      by_cases k3 : sz < -1
      · have e3 : decide (sz < -1) = true := decide_eq_true k3
        have hb : B = true := by rw [← HB.out]; exact decide_eq_true (by omega)
        clear k1 k3
        go_wp2_with fail
        go_meet
        exact ⟨by rw [hb], rfl⟩
      · have e3 : decide (sz < -1) = false := decide_eq_false k3
        by_cases k4 : pad < 0
        · have e4 : decide (pad < 0) = true := decide_eq_true k4
          have hb : B = true := by rw [← HB.out]; exact decide_eq_true (by omega)
          clear k1 k3 k4
          go_wp2_with fail
          go_meet
          exact ⟨by rw [hb], rfl⟩
        · have e4 : decide (pad < 0) = false := decide_eq_false k4
          have hb : B = false := by rw [← HB.out]; exact decide_eq_false (by omega)
          clear k1 k3 k4
          go_wp2_with fail
          go_meet
          exact ⟨by rw [hb], rfl⟩
    · have e1 : (pk != -1) = true := by simp [k1]
      by_cases k2 : pk < 1
      · have e2 : decide (pk < 1) = true := decide_eq_true k2
        have hb : B = true := by rw [← HB.out]; exact decide_eq_true (by omega)
        clear k1 k2
        go_wp2_with fail
        go_meet
        exact ⟨by rw [hb], rfl⟩
      · have e2 : decide (pk < 1) = false := decide_eq_false k2
        by_cases k3 : sz < -1
        · have e3 : decide (sz < -1) = true := decide_eq_true k3
          have hb : B = true := by rw [← HB.out]; exact decide_eq_true (by omega)
          clear k1 k2 k3
          go_wp2_with fail
          go_meet
          exact ⟨by rw [hb], rfl⟩
        · have e3 : decide (sz < -1) = false := decide_eq_false k3
          by_cases k4 : pad < 0
          · have e4 : decide (pad < 0) = true := decide_eq_true k4
            have hb : B = true := by rw [← HB.out]; exact decide_eq_true (by omega)
            clear k1 k2 k3 k4
            go_wp2_with fail
            go_meet
            exact ⟨by rw [hb], rfl⟩
          · have e4 : decide (pad < 0) = false := decide_eq_false k4
            have hb : B = false := by rw [← HB.out]; exact decide_eq_false (by omega)
            clear k1 k2 k3 k4
            go_wp2_with fail
            go_meet
            exact ⟨by rw [hb], rfl⟩
  case rest =>
  obtain ⟨rfl, rfl⟩ := hcut
  cases B
  rotate_left
  · have hp := HN.out 7 (by decide) (by rw [HE.out, if_pos (of_decide_eq_true HB.out)])
    clear HE HN
    go_wp2
    go_ret2
    exact ⟨.slice none 0 0, by rw [hp]; rfl, by rw [hp]; exact byO_nil _ _, HCA.out⟩
  have hgood := of_decide_eq_false HB.out
  by_cases h14 : fn < 1 ∨ 4 < fn
  · have hp := HN.out 6 (by decide) (by rw [HE.out, if_neg hgood, if_pos h14])
    clear HE HN hgood
    by_cases h1 : fn < 1
    · have d1 : decide ((fn : Int) < 1) = true := decide_eq_true (by omega)
      have d1' : decide (fn < 1) = true := decide_eq_true h1
      clear h14 h1
      go_wp2
      go_ret2
      exact ⟨.slice none 0 0, by rw [hp]; rfl, by rw [hp]; exact byO_nil _ _, HCA.out⟩
    · have h4 : 4 < fn := by omega
      have d1 : decide ((fn : Int) < 1) = false := decide_eq_false (by omega)
      have d1' : decide (fn < 1) = false := decide_eq_false h1
      have d2 : decide ((4 : Int) < (fn : Int)) = true := decide_eq_true (by omega)
      have d2' : decide (4 < fn) = true := decide_eq_true h4
      clear h14 h1
      go_wp2
      go_ret2
      exact ⟨.slice none 0 0, by rw [hp]; rfl, by rw [hp]; exact byO_nil _ _, HCA.out⟩
  have HE2 : Hid (Hd21.putE ⟨pk, sz, l.map FlV.f, by_⟩ pad = if (Hd21.putAll (l.map FlV.f)).2 ≠ 0 then (Hd21.putAll (l.map FlV.f)).2 else if 1018 < ((Hd21.room0 ⟨pk, sz, l.map FlV.f, by_⟩).length + Hd21.need (Hd21.room0 ⟨pk, sz, l.map FlV.f, by_⟩).length : Nat) + 4 * pad then 7 else 0) := by
    show _ = _
    rw [HE.out, if_neg hgood, if_neg h14]
  have hn1 : 1 ≤ fn := by omega
  have hn4 : fn ≤ 4 := by omega
  have hni1 : (1 : Int) ≤ (fn : Int) := by omega
  have hni4 : (fn : Int) ≤ 4 := by omega
  have hp1 : pk = -1 ∨ 1 ≤ pk := by omega
  have hs1 : sz = -1 ∨ 0 ≤ sz := by omega
  have hd0 : 0 ≤ pad := by omega
  clear hgood h14 HE HB
  have d1 : decide ((fn : Int) < 1) = false := decide_eq_false (by omega)
  have d1' : decide (fn < 1) = false := decide_eq_false (by omega)
  have d2 : decide ((4 : Int) < (fn : Int)) = false := decide_eq_false (by omega)
  have d2' : decide (4 < fn) = false := decide_eq_false (by omega)
  have HP1 : Hid (pk = -1 ∨ 1 ≤ pk) := hp1
  have HS1 : Hid (sz = -1 ∨ 0 ≤ sz) := hs1
  clear hp1 hs1
  go_upto_region 5 with fail
  clear d1 d1' d2 d2'
  go_upto_if 50 with fail
  have HZ : Hid (pad ≤ 9223372036854775807) := ih
  go_cut [6, 7] (fun fl rm wx => fl = .int .i64 ((fn : Int) - 1 + (if pk = -1 then 0 else 64)) ∧ Hid (ByO wx w1.heap.size rm (Hd21.told pk)) ∧ Hid (Chg (fun _ => False) w1 wx))
  case first =>
    by_cases k1 : pk = -1
    · have e1 : decide (0 ≤ pk) = false := decide_eq_false (by omega)
      have hq : Hid (Hd21.told pk = []) := by show _ = _; unfold Hd21.told; rw [if_pos k1]
      have hF : Hid ((fn : Int) - 1 + (if pk = -1 then 0 else 64) = (fn : Int) - 1) := by show _ = _; rw [if_pos k1]; omega
      clear k1
      rw [e1]
      go_wp2_with fail
      go_meet
      exact ⟨by rw [hF.out], by show ByO _ _ _ _; rw [hq.out]; exact byO_nil _ _, Chg.refl _ _⟩
    · have kp : 1 ≤ pk := by have := HP1.out; omega
      have e1 : decide (0 ≤ pk) = true := decide_eq_true (by omega)
      have hpk : ((pk.toNat : Nat) : Int) = pk := Int.toNat_of_nonneg (by omega)
      have HV : Hid _ := rvput_any pk.toNat w1 (by omega)
      rw [hpk] at HV
      have hw : IntKind.u64.wrap pk = pk := by simp [IntKind.wrap, IntKind.signed, IntKind.bits]; omega
      obtain ⟨bsP, hbP⟩ : ∃ b, vbn pk.toNat = b := ⟨_, rfl⟩
      have hq : Hid (Hd21.told pk = bsP) := by show _ = _; unfold Hd21.told; rw [if_neg k1, hbP]
      have hF : Hid ((fn : Int) - 1 + (if pk = -1 then 0 else 64) = (fn : Int) - 1 + 64) := by show _ = _; rw [if_neg k1]
      have hl9 := (vbn_le pk.toNat).2
      rw [hbP] at HV hl9
      obtain ⟨L1, hL1⟩ : ∃ L, bsP.length = L := ⟨_, rfl⟩
      rw [hL1] at HV hl9
      have hl9i : (L1 : Int) ≤ 9 := by omega
      clear k1 kp hpk hbP hL1
      rw [e1]
      go_wp2_with fail
      refine Calls.mono HV.out ?_
      rintro z w2 ⟨a1, c1, rfl, ho1, c2⟩
      have hown3 : w2.ownsRow w1.heap.size 5 1 (.slice none 0 0) 0 ((nums ([] : List Nat)).map (Value.int .u8)) := World.ownsRow_nil _ _ _ _
      have hsrc3 := (row8_own (xs := nums bsP) ho1).src
      have hB3 : w1.heap.size ≤ w2.heap.size := c2.size
      have HC2 : Hid (Chg (fun _ => False) w1 w2) := c2
      clear ho1 c2 HV
      go_wp2_with (at_builtin; refine wpList_append_moved rfl _ _ 25 rfl w1.heap.size 5 iu (.int .u8 0) 1 1 Tryd.underlying25 hiu hu0 hu1 hu2 rfl (by decide) _ 0 ((nums ([] : List Nat)).map (Value.int .u8)) rfl a1 L1 c1 rfl ((nums bsP).map (Value.int .u8)) ?h1 ?h2 ?h3 ?m1 ?m2 ?m3 ?_)
      case h1 => exact hown3
      case h2 => exact hsrc3
      case h3 => exact oneB bsP
      case m1 => unfold maxLen; omega
      case m2 => omega
      case m3 => exact hB3
      intro v3 w3 ho3 hg3 hm3
      have HC3 : Hid (Chg (fun _ => False) w1 w3) := HC2.out.grown hg3 (fun g e => by simp [Value.ownBlock] at e)
      have HO3 : Hid (ByO w3 w1.heap.size v3 (Hd21.told pk)) := by
        show ByO _ _ _ _
        have h9 := byO_app ho3
        rw [hq.out]
        exact h9
      obtain ⟨a3, c3, rfl⟩ := byO_form HO3.out
      clear ho3 hg3 hm3 hown3 hsrc3 hB3
      go_wp2_with fail
      go_meet
      exact ⟨by rw [hF.out], HO3.out, HC3.out⟩
  case rest =>
  obtain ⟨rfl, hob, hcb⟩ := hcut
  have HO4 : Hid (ByO wc w1.heap.size u7 (Hd21.told pk)) := hob
  have HC4 : Hid (Chg (fun _ => False) w1 wc) := hcb
  clear hob hcb HP1
  obtain ⟨ra, rc, rfl⟩ := byO_form HO4.out
  have hT1 := told_len pk
  obtain ⟨BP, hBP⟩ : ∃ b, Hd21.told pk = b := ⟨_, rfl⟩
  have HBP : Hid (Hd21.told pk = BP) := hBP
  rw [hBP] at hT1 HO4 ⊢
  obtain ⟨T1, hT1e⟩ : ∃ n, BP.length = n := ⟨_, rfl⟩
  have HT1 : Hid (BP.length = T1) := hT1e
  rw [hT1e] at hT1 HO4 ⊢
  have hT1i : (T1 : Int) ≤ 9 := by omega
  obtain ⟨F1, hF1⟩ : ∃ F : Int, (fn : Int) - 1 + (if pk = -1 then 0 else 64) = F := ⟨_, rfl⟩
  have HF1 : Hid ((fn : Int) - 1 + (if pk = -1 then 0 else 64) = F1) := hF1
  have hF1b : 0 ≤ F1 ∧ F1 ≤ 67 := by rw [← hF1]; split <;> omega
  obtain ⟨hF1a, hF1c⟩ := hF1b
  rw [hF1]
  clear hBP hT1e hF1
  replace x0 := cell_chg x0 HC4.out
  replace x1 := cell_chg x1 HC4.out
  replace x2 := cell_chg x2 HC4.out
  go_upto_if 65 with fail
  go_cut [6, 7] (fun fl rm wx => fl = .int .i64 (F1 + (if sz = -1 then 0 else 128)) ∧ Hid (ByO wx w1.heap.size rm (BP ++ Hd21.told sz)) ∧ Hid (Chg (fun _ => False) w1 wx))
  case first =>
    by_cases k1 : sz = -1
    · have e1 : decide (0 ≤ sz) = false := decide_eq_false (by omega)
      have hq : Hid (Hd21.told sz = []) := by show _ = _; unfold Hd21.told; rw [if_pos k1]
      have hF : Hid (F1 + (if sz = -1 then 0 else 128) = F1) := by show _ = _; rw [if_pos k1]; omega
      clear k1
      rw [e1]
      go_wp2_with fail
      go_meet
      exact ⟨by rw [hF.out], by show ByO _ _ _ _; rw [hq.out, List.append_nil]; exact HO4.out, HC4.out⟩
    · have kp : 0 ≤ sz := by have := HS1.out; omega
      have e1 : decide (0 ≤ sz) = true := decide_eq_true (by omega)
      have hpk : ((sz.toNat : Nat) : Int) = sz := Int.toNat_of_nonneg (by omega)
      have HV : Hid _ := rvput_any sz.toNat wc (by omega)
      rw [hpk] at HV
      have hw : IntKind.u64.wrap sz = sz := by simp [IntKind.wrap, IntKind.signed, IntKind.bits]; omega
      obtain ⟨bsP, hbP⟩ : ∃ b, vbn sz.toNat = b := ⟨_, rfl⟩
      have hq : Hid (Hd21.told sz = bsP) := by show _ = _; unfold Hd21.told; rw [if_neg k1, hbP]
      have hF : Hid (F1 + (if sz = -1 then 0 else 128) = F1 + 128) := by show _ = _; rw [if_neg k1]
      have hl9 := (vbn_le sz.toNat).2
      rw [hbP] at HV hl9
      obtain ⟨L1, hL1⟩ : ∃ L, bsP.length = L := ⟨_, rfl⟩
      rw [hL1] at HV hl9
      have hl9i : (L1 : Int) ≤ 9 := by omega
      clear k1 kp hpk hbP hL1
      rw [e1]
      go_wp2_with fail
      refine Calls.mono HV.out ?_
      rintro z w2 ⟨a1, c1, rfl, ho1, c2⟩
      have hown3 : w2.ownsRow w1.heap.size 5 1 (.slice ra T1 rc) T1 ((nums BP).map (Value.int .u8)) := by
        have h9 := HO4.out.new c2
        unfold ByO at h9
        rw [HT1.out] at h9
        exact h9
      have hsrc3 := (row8_own (xs := nums bsP) ho1).src
      have HC2 : Hid (Chg (fun _ => False) w1 w2) := chg_then HC4.out c2
      have hB3 : w1.heap.size ≤ w2.heap.size := HC2.out.size
      clear ho1 c2 HV
      go_wp2_with (at_builtin; refine wpList_append_moved rfl _ _ 25 rfl w1.heap.size 5 iu (.int .u8 0) 1 1 Tryd.underlying25 hiu hu0 hu1 hu2 rfl (by decide) _ T1 ((nums BP).map (Value.int .u8)) rfl a1 L1 c1 rfl ((nums bsP).map (Value.int .u8)) ?h1 ?h2 ?h3 ?m1 ?m2 ?m3 ?_)
      case h1 => exact hown3
      case h2 => exact hsrc3
      case h3 => exact oneB bsP
      case m1 => unfold maxLen; omega
      case m2 => omega
      case m3 => exact hB3
      intro v3 w3 ho3 hg3 hm3
      have HC3 : Hid (Chg (fun _ => False) w1 w3) := HC2.out.grown hg3 (fun g e => .inr ((hown3.lt g e).1))
      have HO3 : Hid (ByO w3 w1.heap.size v3 (BP ++ Hd21.told sz)) := by
        show ByO _ _ _ _
        have h9 := byO_app ho3
        rw [hq.out]
        exact h9
      obtain ⟨a3, c3, rfl⟩ := byO_form HO3.out
      clear ho3 hg3 hm3 hown3 hsrc3 hB3
      go_wp2_with fail
      go_meet
      exact ⟨by rw [hF.out], HO3.out, HC3.out⟩
  case rest =>
  obtain ⟨rfl, hob, hcb⟩ := hcut
  have HO5 : Hid (ByO wc w1.heap.size u7 (BP ++ Hd21.told sz)) := hob
  have HC5 : Hid (Chg (fun _ => False) w1 wc) := hcb
  clear hob hcb HS1
  have hTT : Hid ((BP ++ Hd21.told sz).length ≤ 18) := by
    show _ ≤ _
    have h8 := told_len sz
    rw [List.length_append, HT1.out]
    omega
  obtain ⟨TT, hTTe⟩ : ∃ b, BP ++ Hd21.told sz = b := ⟨_, rfl⟩
  have HTT : Hid (BP ++ Hd21.told sz = TT) := hTTe
  rw [hTTe] at HO5 hTT
  obtain ⟨ra, rc, rfl⟩ := byO_form HO5.out
  obtain ⟨F2, hF2⟩ : ∃ F : Int, F1 + (if sz = -1 then 0 else 128) = F := ⟨_, rfl⟩
  have HF2 : Hid (F1 + (if sz = -1 then 0 else 128) = F2) := hF2
  have hF2b : 0 ≤ F2 ∧ F2 ≤ 195 := by rw [← hF2]; split <;> omega
  obtain ⟨hF2a, hF2c⟩ := hF2b
  rw [hF2]
  clear hTTe hF2 hF1a hF1c
  obtain ⟨T2, hT2⟩ : ∃ n, TT.length = n := ⟨_, rfl⟩
  have HT2 : Hid (TT.length = T2) := hT2
  rw [hT2]
  clear hT2
  have hT2b : Hid (TT.length ≤ 18) := hTT
  clear x0 x1 x2 hTT HO4 HC4
  have x2 := cell_chg HX2.out HC5.out
  go_wp2_with fail
  go_loopw [7, 12] (fun rm i wr => ∃ (k : Nat) (ls : List Nat), k ≤ fn ∧ i = .int .i64 (k : Int) ∧ Hid (ls.length ≤ 18 + k * 1048594) ∧ Hid ((Hd21.putAll ((l.drop k).map FlV.f)).2 = (Hd21.putAll (l.map FlV.f)).2) ∧ Hid ((Hd21.putAll (l.map FlV.f)).2 = 0 → ls ++ (Hd21.putAll ((l.drop k).map FlV.f)).1 = TT ++ (Hd21.putAll (l.map FlV.f)).1) ∧ Hid (ByO wr w1.heap.size rm ls) ∧ Hid (Chg (fun _ => False) w1 wr)) (fun _ i _ => fn - (intOf i).toNat)
  case atStart =>
    have hbase := HO5.out
    rw [HT2.out] at hbase
    exact ⟨0, TT, by omega, rfl, by have := hT2b.out; show _ ≤ _; omega, by show _ = _; rw [List.drop_zero], fun _ => by rw [List.drop_zero], hbase, HC5.out⟩
  case round =>
    obtain ⟨k, ls, hk, rfl, HLS, HA, HAA, HO, HC⟩ := hrel
    obtain ⟨rb, rd, rfl⟩ := byO_form HO.out
    obtain ⟨n0, hn0⟩ : ∃ n, ls.length = n := ⟨_, rfl⟩
    have HN0 : Hid (ls.length = n0) := hn0
    rw [hn0] at HLS HO ⊢
    clear hn0 x2
    have x2 := cell_chg HX2.out HC.out
    have hki : (k : Int) ≤ (fn : Int) := by omega
    have hn0b : n0 ≤ 4194394 := by
      have := HLS.out
      have h4 : k * 1048594 ≤ 4 * 1048594 := Nat.mul_le_mul_right _ (by omega)
      omega
    have hn0i : (n0 : Int) ≤ 4194394 := by omega
    by_cases hlt : k < fn
    · have d1 : decide ((k : Int) < (fn : Int)) = true := decide_eq_true (by omega)
      have d1' : decide (k < fn) = true := decide_eq_true hlt
      obtain ⟨x, b, off, hx, hok, rfl, p0, p1⟩ := HF.out.at (k := k) (by rw [HFL.out]; exact hlt)
      have HD : Hid (l.drop k = x :: l.drop (k + 1)) := by
        obtain ⟨hlk, hxe⟩ := List.getElem?_eq_some_iff.1 hx
        show _ = _
        rw [List.drop_eq_getElem_cons hlk, hxe]
      have hxb := HXN.out k x hx
      have hxl := hok.len
      obtain ⟨id, xa, xn, xc, ps⟩ := x
      simp only at p0 p1 hxb hxl
      replace p0 := cell_chg p0 HC.out
      replace p1 := cell_chg p1 HC.out
      have HP : Hid _ := rput20_any id xa xn xc ps wr (hok.new HC.out)
      have hpl := putF_len ⟨id, ps⟩
      obtain ⟨PB, pe, hpe⟩ : ∃ P e, Cn20.putF ⟨id, ps⟩ = (P, e) := ⟨_, _, rfl⟩
      rw [hpe] at HP hpl
      simp only at HP hpl
      rw [hxl] at hpl
      obtain ⟨L1, hL1⟩ : ∃ L, PB.length = L := ⟨_, rfl⟩
      have HL1 : Hid (PB.length = L1) := hL1
      rw [hL1] at hpl
      have hpli : (L1 : Int) ≤ 1048594 := by omega
      have HPE : Hid ((Cn20.putF ⟨id, ps⟩) = (PB, pe)) := hpe
      clear hpe hL1 hxl hxb hok hx
      by_cases hpe0 : pe = 0
      · subst hpe0
        have hst := putAll_step (f := ⟨id, ps⟩) (r := (l.drop (k + 1)).map FlV.f) (by rw [HPE.out])
        have HA2 : Hid ((Hd21.putAll ((l.drop (k + 1)).map FlV.f)).2 = (Hd21.putAll (l.map FlV.f)).2) := by
          show _ = _
          rw [← HA.out, HD.out, List.map_cons]
          exact hst.1.symm
        have HAA2 : Hid ((Hd21.putAll (l.map FlV.f)).2 = 0 → (ls ++ PB) ++ (Hd21.putAll ((l.drop (k + 1)).map FlV.f)).1 = TT ++ (Hd21.putAll (l.map FlV.f)).1) := fun h0 => by
          rw [← HAA.out h0, HD.out, List.map_cons]
          have := hst.2 (by rw [HA2.out]; exact h0)
          rw [show FlV.f ⟨id, xa, xn, xc, ps⟩ = ⟨id, ps⟩ from rfl, this, HPE.out, List.append_assoc]
        have HLS2 : Hid ((ls ++ PB).length ≤ 18 + (k + 1) * 1048594) := by
          show _ ≤ _
          rw [List.length_append, HN0.out, HL1.out]
          have := HLS.out
          have h5 : (k + 1) * 1048594 = k * 1048594 + 1048594 := Nat.succ_mul _ _
          omega
        clear hst HA HAA HLS
        go_wp2_with fail
        refine Calls.mono HP.out ?_
        rintro z w2 ⟨ov, rfl, ho, c2⟩
        obtain ⟨oa, oc, rfl⟩ := byO_form ho
        rw [HL1.out] at ho ⊢
        have hown3 : w2.ownsRow w1.heap.size 5 1 (.slice rb n0 rd) n0 ((nums ls).map (Value.int .u8)) := by
          have h9 := HO.out.new c2
          unfold ByO at h9
          rw [HN0.out] at h9
          exact h9
        have hsrc3 := ((byO_row ho).1).src
        have HC2 : Hid (Chg (fun _ => False) w1 w2) := chg_then HC.out c2
        have hB3 : w1.heap.size ≤ w2.heap.size := HC2.out.size
        clear ho c2 HP p0 p1 x2
        go_wp2_with (at_builtin; refine wpList_append_moved rfl _ _ 25 rfl w1.heap.size 5 iu (.int .u8 0) 1 1 Tryd.underlying25 hiu hu0 hu1 hu2 rfl (by decide) _ n0 ((nums ls).map (Value.int .u8)) rfl oa L1 oc rfl ((nums PB).map (Value.int .u8)) ?h1 ?h2 ?h3 ?m1 ?m2 ?m3 ?_)
        case h1 => exact hown3
        case h2 => exact hsrc3
        case h3 => exact oneB PB
        case m1 => unfold maxLen; omega
        case m2 => omega
        case m3 => exact hB3
        intro v3 w3 ho3 hg3 hm3
        have HC3 : Hid (Chg (fun _ => False) w1 w3) := HC2.out.grown hg3 (fun g e => .inr ((hown3.lt g e).1))
        have HO3 : Hid (ByO w3 w1.heap.size v3 (ls ++ PB)) := byO_app ho3
        clear ho3 hg3 hm3 hown3 hsrc3 hB3 HO
        go_wp2
        go_roundw
        case rel => exact ⟨k + 1, ls ++ PB, by omega, by go_num, HLS2, HA2, HAA2, HO3, HC3⟩
        case measure => simp [intOf]; omega
      · have z1 : (pe != 0) = true := by simpa using hpe0
        have hp := HN.out pe hpe0 (by
          have h1 : (Hd21.putAll (l.map FlV.f)).2 = pe := by
            rw [← HA.out, HD.out, List.map_cons, show FlV.f ⟨id, xa, xn, xc, ps⟩ = ⟨id, ps⟩ from rfl, putAll_err (by rw [HPE.out]; exact hpe0), HPE.out]
          rw [HE2.out, h1, if_pos hpe0])
        clear hpe0
        go_wp2_with fail
        refine Calls.mono HP.out ?_
        rintro z w2 ⟨ov, rfl, ho, c2⟩
        have HC2 : Hid (Chg (fun _ => False) w0 w2) := chg_then HCA.out (chg_then HC.out c2)
        clear ho c2
        go_wp2
        go_ret2
        exact ⟨.slice none 0 0, by rw [hp]; rfl, by rw [hp]; exact byO_nil _ _, HC2.out⟩
    · have hkf : k = fn := by omega
      have HA0 : Hid ((Hd21.putAll (l.map FlV.f)).2 = 0) := by
        show _ = _
        rw [← HA.out, hkf, ← HFL.out, List.drop_length]
        rfl
      have HR : Hid (ls = Hd21.room0 ⟨pk, sz, l.map FlV.f, by_⟩) := by
        show _ = _
        have h9 := HAA.out HA0.out
        rw [hkf, ← HFL.out, List.drop_length, show (Hd21.putAll (List.map FlV.f [])).1 = [] from rfl, List.append_nil, ← HTT.out, ← HBP.out] at h9
        exact h9
      have d1 : decide ((k : Int) < (fn : Int)) = false := decide_eq_false (by omega)
      have d1' : decide (k < fn) = false := decide_eq_false hlt
      clear HA HAA hkf hlt
      obtain ⟨ND, hND⟩ : ∃ n, Hd21.need n0 = n := ⟨_, rfl⟩
      have hnd := need_is n0
      rw [hND] at hnd
      have HND : Hid (Hd21.need n0 = ND ∧ ND ≤ 3 ∧ ∀ j, j ≤ ND → ((n0 + j) % 4 = 2 ↔ j = ND)) := ⟨hND, hnd.1, hnd.2⟩
      clear HLS hki hND hnd
      have HO0 : Hid (ByO wr w1.heap.size (.slice rb n0 rd) (ls ++ List.replicate 0 0)) := by show ByO _ _ _ _; rw [List.replicate_zero, List.append_nil]; exact HO.out
      clear HO
      go_wp2_with fail
      clear x2
      go_loopw [7] (fun v wq => ∃ (j : Nat) (a : Option Addr) (c : Nat), v = .slice a (n0 + j) c ∧ Hid (j ≤ ND) ∧ Hid (ByO wq w1.heap.size (.slice a (n0 + j) c) (ls ++ List.replicate j 0)) ∧ Hid (Chg (fun _ => False) w1 wq)) (fun v _ => n0 + ND - lenV v)
      case atStart => exact ⟨0, rb, rd, rfl, Nat.zero_le _, HO0.out, HC.out⟩
      case round =>
        obtain ⟨j, ja, jc, rfl, HJ, HJO, HJC⟩ := hrel
        have hjn : j ≤ ND := HJ.out
        have hn3 : ND ≤ 3 := HND.out.2.1
        have hjq := HND.out.2.2 j hjn
        obtain ⟨M, hM⟩ : ∃ M, n0 + j = M := ⟨_, rfl⟩
        have HMM : Hid (n0 + j = M) := hM
        have HLN : Hid ((ls ++ List.replicate j 0).length = M) := by show _ = _; rw [List.length_append, List.length_replicate, HN0.out]; exact hM
        rw [hM] at HJO hjq
        rw [hM]
        have hMi : (M : Int) ≤ 4194397 := by omega
        obtain ⟨r, hr⟩ : ∃ r, M % 4 = r := ⟨_, rfl⟩
        rw [hr] at hjq
        have hr1 : (M : Int) % 4 = (r : Int) := by omega
        have hr2 : (M : Int).tmod 4 = (r : Int) := by rw [Int.tmod_eq_emod_of_nonneg (by omega)]; exact hr1
        have HRR : Hid (M % 4 = r) := hr
        clear hr
        by_cases hlt : j < ND
        · have e1 : ((r : Int) != 2) = true := by
            have : r ≠ 2 := fun e => by have := hjq.1 e; omega
            simp; omega
          have HRP : Hid (ls ++ List.replicate (j + 1) 0 = (ls ++ List.replicate j 0) ++ [0]) := by show _ = _; rw [List.replicate_succ', List.append_assoc]
          clear hjq hM
          obtain ⟨lz, hlz⟩ : ∃ lz, ls ++ List.replicate j 0 = lz := ⟨_, rfl⟩
          rw [hlz] at HJO HLN HRP
          clear hlz
          have cZ := chg_one wr (.cells #[.int .u8 0] 5)
          have hown9 : (wr.alloc (.cells #[.int .u8 0] 5)).ownsRow w1.heap.size 5 1 (.slice ja M jc) M ((nums lz).map (Value.int .u8)) := by
            have h1 := HJO.out.new cZ
            unfold ByO at h1
            rw [HLN.out] at h1
            exact h1
          have hsrc9 := (row8_litH wr [0] 1 5 rfl #[.int .u8 0] rfl).src
          have hB9 : w1.heap.size ≤ (wr.alloc (.cells #[.int .u8 0] 5)).heap.size := (chg_then HJC.out cZ).size
          have HCZ : Hid (Chg (fun _ => False) w1 (wr.alloc (.cells #[.int .u8 0] 5))) := chg_then HJC.out cZ
          clear cZ
          go_wp2_with (at_builtin; refine wpList_append_moved rfl _ _ 25 rfl w1.heap.size 5 iu (.int .u8 0) 1 1 Tryd.underlying25 hiu hu0 hu1 hu2 rfl (by decide) _ M ((nums lz).map (Value.int .u8)) rfl (some ⟨wr.heap.size, 0, none⟩) 1 1 rfl ((nums [0]).map (Value.int .u8)) ?h1 ?h2 ?h3 ?m1 ?m2 ?m3 ?_)
          case h1 => exact hown9
          case h2 => exact hsrc9
          case h3 => exact oneB [0]
          case m1 => unfold maxLen; omega
          case m2 => omega
          case m3 => exact hB9
          intro v9 w9 ho9 hg9 hm9
          have HC9 : Hid (Chg (fun _ => False) w1 w9) := HCZ.out.grown hg9 (fun g e => .inr ((hown9.lt g e).1))
          have HO9 : Hid (ByO w9 w1.heap.size v9 (lz ++ [0])) := byO_app ho9
          obtain ⟨a9, c9, hv9⟩ := form1 ho9
          subst hv9
          clear ho9 hg9 hm9 hown9 hsrc9 hB9 HCZ
          go_wp2
          go_roundw
          case rel => exact ⟨j + 1, a9, c9, by rw [← HMM.out]; rfl, by show _ ≤ _; omega, by show ByO _ _ _ _; rw [HRP.out, ← Nat.add_assoc, HMM.out]; exact HO9.out, HC9.out⟩
          case measure => simp [lenV]; have := HMM.out; omega
        · obtain rfl : j = ND := by omega
          have e1 : ((r : Int) != 2) = false := by
            have := hjq.2 rfl
            simp; omega
          clear hjq hM
          have HR2 : Hid (ls ++ List.replicate j 0 = Hd21.room0 ⟨pk, sz, l.map FlV.f, by_⟩ ++ List.replicate (Hd21.need (Hd21.room0 ⟨pk, sz, l.map FlV.f, by_⟩).length) 0) := by
            show _ = _
            rw [← HR.out, HN0.out, HND.out.1]
          have HLM : Hid ((Hd21.room0 ⟨pk, sz, l.map FlV.f, by_⟩).length + Hd21.need (Hd21.room0 ⟨pk, sz, l.map FlV.f, by_⟩).length = M) := by
            show _ = _
            rw [← HR.out, HN0.out, HND.out.1]
            exact HMM.out
          have HE3 : Hid (Hd21.putE ⟨pk, sz, l.map FlV.f, by_⟩ pad = if 1018 < (M : Int) + 4 * pad then 7 else 0) := by
            show _ = _
            rw [HE2.out, if_neg (by rw [HA0.out]; simp), HLM.out]
          obtain ⟨lz, hlz⟩ : ∃ lz, ls ++ List.replicate j 0 = lz := ⟨_, rfl⟩
          rw [hlz] at HJO HLN HR2
          clear hlz HO0 HR HN0 HND HMM HE2
          have hIH : pad ≤ 9223372036854775807 := HZ.out
          by_cases hbig : 1018 < (M : Int) + 4 * pad
          · have hp := HN.out 7 (by decide) (by rw [HE3.out, if_pos hbig])
            have HC9 : Hid (Chg (fun _ => False) w0 wr) := chg_then HCA.out HJC.out
            clear HE3 HN HR2 HLM HJO HRR
            by_cases k1 : 1018 < M
            · have c1 : decide ((1018 : Int) < (M : Int)) = true := decide_eq_true (by omega)
              have c1' : decide (1018 < M) = true := decide_eq_true k1
              clear hbig k1
              go_wp2
              go_ret2
              exact ⟨.slice none 0 0, by rw [hp]; rfl, by rw [hp]; exact byO_nil _ _, HC9.out⟩
            · have c1 : decide ((1018 : Int) < (M : Int)) = false := decide_eq_false (by omega)
              have c1' : decide (1018 < M) = false := decide_eq_false k1
              by_cases k2 : 256 < pad
              · have c2 : decide (256 < pad) = true := decide_eq_true k2
                clear hbig k1 k2
                go_wp2
                go_ret2
                exact ⟨.slice none 0 0, by rw [hp]; rfl, by rw [hp]; exact byO_nil _ _, HC9.out⟩
              · have c2 : decide (256 < pad) = false := decide_eq_false k2
                have c3 : decide (1018 < (M : Int) + 4 * pad) = true := decide_eq_true hbig
                have k3 : pad ≤ 256 := by omega
                clear hbig k1 k2
                go_wp2
                go_ret2
                exact ⟨.slice none 0 0, by rw [hp]; rfl, by rw [hp]; exact byO_nil _ _, HC9.out⟩
          · obtain ⟨p, hp⟩ : ∃ p : Nat, pad = (p : Int) := ⟨pad.toNat, by omega⟩
            subst hp
            obtain ⟨P4, hP4⟩ : ∃ P4 : Nat, 4 * p = P4 := ⟨_, rfl⟩
            have hP4i : 4 * (p : Int) = (P4 : Int) := by omega
            rw [hP4i] at hbig
            have hM4 : M + P4 ≤ 1018 := by omega
            have hM4i : (M : Int) + (P4 : Int) ≤ 1018 := by omega
            have HPP : Hid (4 * p = P4) := hP4
            have HE0 : Hid (Hd21.putE ⟨pk, sz, l.map FlV.f, by_⟩ (p : Int) = 0) := by
              show _ = _
              rw [HE3.out, if_neg (by rw [hP4i]; exact hbig)]
            have c1 : decide ((1018 : Int) < (M : Int)) = false := decide_eq_false (by omega)
            have c1' : decide (1018 < M) = false := decide_eq_false (by omega)
            have c2 : decide ((256 : Int) < (p : Int)) = false := decide_eq_false (by omega)
            have c2' : decide (256 < p) = false := decide_eq_false (by omega)
            have c3 : decide ((1018 : Int) < (M : Int) + (P4 : Int)) = false := decide_eq_false (by omega)
            have hpi : (p : Int) ≤ 254 := by omega
            have HJ0 : Hid (ByO wr w1.heap.size (.slice ja (M + 0) jc) (lz ++ List.replicate 0 0)) := by show ByO _ _ _ _; rw [List.replicate_zero, List.append_nil]; exact HJO.out
            clear hbig HE3 HN HJO hP4
            go_wp2_with fail
            have HLZ : Hid (lz.length = M) := HLN.out
            clear c1 c1' c2 c2' c3 HLN hn0b hn0i hT1 hT1i hr1 hr2 hn3 e1 hjn
            go_loopw [7, 15] (fun v t wq => ∃ (i : Nat) (a : Option Addr) (c : Nat), v = .slice a (M + i) c ∧ t = .int .i64 (i : Int) ∧ Hid (i ≤ P4) ∧ Hid (ByO wq w1.heap.size (.slice a (M + i) c) (lz ++ List.replicate i 0)) ∧ Hid (Chg (fun _ => False) w1 wq)) (fun _ t _ => P4 - (intOf t).toNat)
            case atStart => exact ⟨0, ja, jc, rfl, rfl, Nat.zero_le _, HJ0.out, HJC.out⟩
            case round =>
              obtain ⟨i, qa, qc, rfl, rfl, HI, HIO, HIC⟩ := hrel
              have hi4 : i ≤ P4 := HI.out
              obtain ⟨N, hN⟩ : ∃ N, M + i = N := ⟨_, rfl⟩
              have HNN : Hid (M + i = N) := hN
              have HLN : Hid ((lz ++ List.replicate i 0).length = N) := by show _ = _; rw [List.length_append, List.length_replicate, HLZ.out]; exact hN
              rw [hN] at HIO
              rw [hN]
              have hNi : (N : Int) ≤ 1018 := by omega
              have hii : (i : Int) ≤ 1018 := by omega
              by_cases hlt : i < P4
              · have d1 : decide ((i : Int) < (P4 : Int)) = true := decide_eq_true (by omega)
                have d1' : decide (i < P4) = true := decide_eq_true hlt
                have HRP : Hid (lz ++ List.replicate (i + 1) 0 = (lz ++ List.replicate i 0) ++ [0]) := by show _ = _; rw [List.replicate_succ', List.append_assoc]
                clear hN
                obtain ⟨lx, hlx⟩ : ∃ lx, lz ++ List.replicate i 0 = lx := ⟨_, rfl⟩
                rw [hlx] at HIO HLN HRP
                clear hlx
                have cZ := chg_one wr (.cells #[.int .u8 0] 5)
                have hown9 : (wr.alloc (.cells #[.int .u8 0] 5)).ownsRow w1.heap.size 5 1 (.slice qa N qc) N ((nums lx).map (Value.int .u8)) := by
                  have h1 := HIO.out.new cZ
                  unfold ByO at h1
                  rw [HLN.out] at h1
                  exact h1
                have hsrc9 := (row8_litH wr [0] 1 5 rfl #[.int .u8 0] rfl).src
                have hB9 : w1.heap.size ≤ (wr.alloc (.cells #[.int .u8 0] 5)).heap.size := (chg_then HIC.out cZ).size
                have HCZ : Hid (Chg (fun _ => False) w1 (wr.alloc (.cells #[.int .u8 0] 5))) := chg_then HIC.out cZ
                clear cZ
                go_wp2_with (at_builtin; refine wpList_append_moved rfl _ _ 25 rfl w1.heap.size 5 iu (.int .u8 0) 1 1 Tryd.underlying25 hiu hu0 hu1 hu2 rfl (by decide) _ N ((nums lx).map (Value.int .u8)) rfl (some ⟨wr.heap.size, 0, none⟩) 1 1 rfl ((nums [0]).map (Value.int .u8)) ?h1 ?h2 ?h3 ?m1 ?m2 ?m3 ?_)
                case h1 => exact hown9
                case h2 => exact hsrc9
                case h3 => exact oneB [0]
                case m1 => unfold maxLen; omega
                case m2 => omega
                case m3 => exact hB9
                intro v9 w9 ho9 hg9 hm9
                have HC9 : Hid (Chg (fun _ => False) w1 w9) := HCZ.out.grown hg9 (fun g e => .inr ((hown9.lt g e).1))
                have HO9 : Hid (ByO w9 w1.heap.size v9 (lx ++ [0])) := byO_app ho9
                obtain ⟨a9, c9, hv9⟩ := form1 ho9
                subst hv9
                clear ho9 hg9 hm9 hown9 hsrc9 hB9 HCZ
                go_wp2
                go_roundw
                case rel => exact ⟨i + 1, a9, c9, by rw [← HNN.out]; rfl, by go_num, by show _ ≤ _; omega, by show ByO _ _ _ _; rw [HRP.out, ← Nat.add_assoc, HNN.out]; exact HO9.out, HC9.out⟩
                case measure => simp [intOf]; omega
              · obtain rfl : i = P4 := by omega
                have d1 : decide ((i : Int) < (i : Int)) = false := decide_eq_false (by omega)
                have d1' : decide (i < i) = false := decide_eq_false (by omega)
                have HRM : Hid (lz ++ List.replicate i 0 = Hd21.room ⟨pk, sz, l.map FlV.f, by_⟩ p) := by
                  show _ = _
                  rw [HR2.out, ← HPP.out]
                  rfl
                obtain ⟨Q, hQ⟩ : ∃ Q, (N + 6) / 4 - 1 = Q := ⟨_, rfl⟩
                have hQb : Q ≤ 255 := by omega
                have hQi : (Q : Int) ≤ 255 := by omega
                have hq1 : ((N : Int) + 6).tdiv 4 = (((N + 6) / 4 : Nat) : Int) := by rw [Int.tdiv_eq_ediv_of_nonneg (by omega)]; omega
                obtain ⟨Q1, hQ1⟩ : ∃ Q1, (N + 6) / 4 = Q1 := ⟨_, rfl⟩
                rw [hQ1] at hq1 hQ
                have hQ1i : (Q1 : Int) ≤ 256 := by omega
                have hq2 : (Q1 : Int) - 1 = (Q : Int) := by omega
                have hq3 : ((N : Int) + 6) / 4 = (Q1 : Int) := by omega
                have hw1 : IntKind.u8.wrap (Q : Int) = (Q : Int) := wr8 (by omega) (by omega)
                obtain ⟨fl, hfl⟩ : ∃ fl : Nat, F2 = (fl : Int) := ⟨F2.toNat, by omega⟩
                subst hfl
                have hflb : fl ≤ 195 := by omega
                have hw2 : IntKind.u8.wrap (fl : Int) = (fl : Int) := wr8 (by omega) (by omega)
                have HBD : Hid ([Q, fl] ++ (lz ++ List.replicate i 0) = Hd21.body ⟨pk, sz, l.map FlV.f, by_⟩ p) := by
                  show _ = _
                  have e1 : fl = Hd21.flags pk sz (l.map FlV.f).length := by
                    rw [List.length_map, HFL.out]
                    exact flags_is hn1 HF1.out HF2.out
                  unfold Hd21.body
                  rw [← HRM.out, HLN.out, hQ1, hQ, ← e1]
                have HDG : Hid (Rc.Dig ([Q, fl] ++ (lz ++ List.replicate i 0))) := by
                  show Rc.Dig _
                  rw [HBD.out]
                  have h9 := Hd21.body_dig HE0.out (fun f hf => by
                    obtain ⟨q, hq, rfl⟩ := List.mem_map.1 (show f ∈ l.map FlV.f from hf)
                    obtain ⟨k, hk, e⟩ := List.getElem_of_mem hq
                    exact (HF.out k q (by rw [List.getElem?_eq_getElem hk, e])).1.dig)
                  rw [Int.toNat_natCast] at h9
                  exact h9
                have HPH : Hid (Hd21.putH ⟨pk, sz, l.map FlV.f, by_⟩ (p : Int) = (Hd21.body ⟨pk, sz, l.map FlV.f, by_⟩ p ++ crc4 (Hd21.body ⟨pk, sz, l.map FlV.f, by_⟩ p), 0)) := by
                  show _ = _
                  unfold Hd21.putH
                  rw [if_neg (by rw [HE0.out]; simp), Int.toNat_natCast]
                clear hN hQ1 hQ
                obtain ⟨lx, hlx⟩ : ∃ lx, lz ++ List.replicate i 0 = lx := ⟨_, rfl⟩
                rw [hlx] at HIO HLN HBD HDG
                clear hlx
                have cL := chg_one wr (.cells #[.int .u8 (Q : Int), .int .u8 (fl : Int)] 5)
                have hown9 : (wr.alloc (.cells #[.int .u8 (Q : Int), .int .u8 (fl : Int)] 5)).ownsRow w1.heap.size 5 1 (.slice (some ⟨wr.heap.size, 0, none⟩) 2 2) 2 ((nums [Q, fl]).map (Value.int .u8)) := by
                  have h1 := owns_base (byO_lit2 wr Q fl) HIC.out.size
                  exact h1
                have hsrc9 := (Bk.row8_chg (byO_row HIO.out).1 cL).src
                have hB9 : w1.heap.size ≤ (wr.alloc (.cells #[.int .u8 (Q : Int), .int .u8 (fl : Int)] 5)).heap.size := (chg_then HIC.out cL).size
                have HCZ : Hid (Chg (fun _ => False) w1 (wr.alloc (.cells #[.int .u8 (Q : Int), .int .u8 (fl : Int)] 5))) := chg_then HIC.out cL
                clear cL
                go_wp2_with (at_builtin; refine wpList_append_moved rfl _ _ 25 rfl w1.heap.size 5 iu (.int .u8 0) 1 1 Tryd.underlying25 hiu hu0 hu1 hu2 rfl (by decide) _ 2 ((nums [Q, fl]).map (Value.int .u8)) rfl qa N qc rfl ((nums lx).map (Value.int .u8)) ?h1 ?h2 ?h3 ?m1 ?m2 ?m3 ?_)
                case h1 => exact hown9
                case h2 => exact hsrc9
                case h3 => exact oneB lx
                case m1 => unfold maxLen; omega
                case m2 => omega
                case m3 => exact hB9
                intro v9 w9 ho9 hg9 hm9
                have HC9 : Hid (Chg (fun _ => False) w1 w9) := HCZ.out.grown hg9 (fun g e => .inr ((hown9.lt g e).1))
                have HO9 : Hid (ByO w9 w1.heap.size v9 ([Q, fl] ++ lx)) := byO_app ho9
                obtain ⟨a9, c9, hv9⟩ := form1 ho9
                subst hv9
                clear ho9 hg9 hm9 hown9 hsrc9 hB9 HCZ hw1 hw2 hq1 hq2 hq3
                obtain ⟨bd, hbd⟩ : ∃ bd, [Q, fl] ++ lx = bd := ⟨_, rfl⟩
                have hbl : bd.length = 2 + N := by rw [← hbd, List.length_append, HLN.out]; rfl
                rw [hbd] at HO9 HBD HDG
                clear hbd
                have HBL : Hid (bd.length = 2 + N) := hbl
                have HSM : Hid _ := rsum_any a9 (2 + N) c9 bd w9 (byO_row HO9.out).1 HDG.out (by omega)
                go_wp2_with fail
                refine Calls.mono HSM.out ?_
                rintro z w8 ⟨sv, rfl, hsv, c8⟩
                obtain ⟨sa, sc, rfl⟩ := byO_form hsv
                have hcl : (crc4 bd).length = 4 := low_len _ _
                rw [hcl]
                rw [hcl] at hsv
                have hown7 : w8.ownsRow w1.heap.size 5 1 (.slice a9 (2 + N) c9) (2 + N) ((nums bd).map (Value.int .u8)) := by
                  have h1 := HO9.out.new c8
                  unfold ByO at h1
                  rw [HBL.out] at h1
                  exact h1
                have hsrc7 := (byO_row hsv).1.src
                have HC8 : Hid (Chg (fun _ => False) w1 w8) := chg_then HC9.out c8
                have hB7 : w1.heap.size ≤ w8.heap.size := HC8.out.size
                clear hsv c8 HSM hbl hcl
                go_wp2_with (at_builtin; refine wpList_append_moved rfl _ _ 25 rfl w1.heap.size 5 iu (.int .u8 0) 1 1 Tryd.underlying25 hiu hu0 hu1 hu2 rfl (by decide) _ (2 + N) ((nums bd).map (Value.int .u8)) rfl sa 4 sc rfl ((nums (crc4 bd)).map (Value.int .u8)) ?h1 ?h2 ?h3 ?m1 ?m2 ?m3 ?_)
                case h1 => exact hown7
                case h2 => exact hsrc7
                case h3 => exact oneB (crc4 bd)
                case m1 => unfold maxLen; omega
                case m2 => omega
                case m3 => exact hB7
                intro v7 w7 ho7 hg7 hm7
                have HC7 : Hid (Chg (fun _ => False) w1 w7) := HC8.out.grown hg7 (fun g e => .inr ((hown7.lt g e).1))
                have HO7 : Hid (ByO w7 w1.heap.size v7 (bd ++ crc4 bd)) := byO_app ho7
                clear ho7 hg7 hm7 hown7 hsrc7 hB7
                go_wp2
                go_ret2
                exact ⟨v7, by rw [HPH.out]; rfl, by rw [HPH.out, ← HBD.out]; exact owns_base HO7.out HCA.out.size, chg_then HCA.out HC7.out⟩
end Go.Proofs.YtkncbanodpfccaaDoor
