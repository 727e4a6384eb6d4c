/- Where a changed byte is seen: the walk of DeltaOne; of no statement by itself. -/
import Derived.Test.YtefplppgkoanbaaDa
import Derived.BigQuiet
import Derived.Deep.QuietTactic
namespace Go.Proofs.Ytefplppgkoanbaa
open Go.RowKit
set_option linter.unusedVariables false
set_option linter.unusedSimpArgs false
variable {Fi : World → Nat → Nat → (Nat → Prop) → Nat → Bool → List Nat → Prop}
/-- Of any number a place below n. -/
def atN (m : Int) (n : Nat) : Nat := (m % (n : Int)).toNat
theorem atN_lt (m : Int) {n : Nat} (h : 0 < n) : atN m n < n := by
  unfold atN
  have h1 := Int.emod_nonneg m (show (n : Int) ≠ 0 by omega)
  have h2 := Int.emod_lt_of_pos m (show (0 : Int) < (n : Int) by omega)
  omega
theorem atN_eq (m : Int) {n : Nat} (h : 0 < n) : ((m.tmod (n : Int) < 0) ∧ ((atN m n : Nat) : Int) = m.tmod (n : Int) + (n : Int)) ∨ (0 ≤ m.tmod (n : Int) ∧ ((atN m n : Nat) : Int) = m.tmod (n : Int)) := by
  unfold atN
  have h1 := Int.emod_nonneg m (show (n : Int) ≠ 0 by omega)
  rw [Int.tmod_eq_emod]
  have h2 := Int.emod_lt_of_pos m (show (0 : Int) < (n : Int) by omega)
  split
  · right; omega
  · left; omega
theorem sub8 (u x : Nat) (hu : u < 256) (hx : x < 256) : ((u : Int) - (x : Int)) % 256 = ((De19.less u x : Nat) : Int) := by unfold De19.less; omega
set_option maxHeartbeats 16000000 in
set_option maxRecDepth 100000 in
theorem done_any (S : DeltaSpec Fi) (ad : Option Addr) (n c : Nat) (bs : List Nat) (m a : Int) (z : Nat) (hm : I64 m) (ha : I64 a) (hz : z < 256) (w0 : World) (hr : Row8 w0 ad n c (nums bs)) (hg : Rc.Dig bs) (hn : n ≤ 140737488351232) : Calls Try.prog 5 #[.slice ad n c, .int .i64 m, .int .i64 a, .int .u8 (z : Int)] w0 fun e w' => e = .returned (.bool true) ∧ Chg (fun _ => False) w0 w' := by
  have hni : (n : Int) ≤ 140737488351232 := by omega
  by_cases h0 : n = 0
  · subst h0
    go_enter Try.func5, Try.ntmps5
    go_wp2
    go_ret
    exact ⟨rfl, Chg.refl _ _⟩
  have e0 : ((n : Int) == 0) = false := by simp; omega
  obtain ⟨iu, hiu, hu0, hu1, hu2⟩ := info_parts info5u
  have hbl : bs.length = n := by have h9 := hr.1; rw [nums_len] at h9; exact h9
  have HBL : Hid (bs.length = n) := hbl
  have HR : Hid (Row8 w0 ad n c (nums bs) ∧ Rc.Dig bs) := ⟨hr, hg⟩
  have HD : Hid _ := distance_q m hm w0
  have HG := dN_good m
  obtain ⟨d, hd⟩ : ∃ d, dN m = d := ⟨_, rfl⟩
  rw [hd] at HD HG
  have HGD : Hid (goodD (d : Int) ∧ 1 ≤ d ∧ d ≤ 256) := HG
  have hdi : (d : Int) ≤ 256 := by have := HG.2.2; omega
  have hdi1 : (1 : Int) ≤ (d : Int) := by have := HG.2.1; omega
  have hat := atN_lt a (n := n) (by omega)
  have hae := atN_eq a (n := n) (by omega)
  obtain ⟨A, hA⟩ : ∃ A, atN a n = A := ⟨_, rfl⟩
  rw [hA] at hat hae
  obtain ⟨r, hr9⟩ : ∃ r, a.tmod (n : Int) = r := ⟨_, rfl⟩
  rw [hr9] at hae
  have hAi : (A : Int) < (n : Int) := by omega
  have HAN : Hid (A < n ∧ 0 < n) := ⟨hat, by omega⟩
  have hzi : (z : Int) ≤ 255 := by omega
  have HZ : Hid (z < 256) := hz
  clear hr hg hbl hd HG h0 hA hm ha hz
  go_enter Try.func5, Try.ntmps5
  go_wp2_with fail
  refine Calls.mono HD.out ?_
  rintro zz w0 ⟨rfl, rfl⟩
  clear HD
  have c1 := chg_one w0 (.cells #[] 5)
  have hown := own_empty w0 5
  have hsrc := (Bk.row8_chg HR.out.1 c1).src
  have hone := oneB bs
  have hB1 : w0.heap.size ≤ (w0.alloc (.cells #[] 5)).heap.size := c1.size
  have HC1 : Hid (Chg (fun _ => False) w0 (w0.alloc (.cells #[] 5))) := c1
  clear c1
  have rest : ∀ rv : Int, True := fun _ => trivial
  clear rest
  rcases hae with ⟨hlt, hAr⟩ | ⟨hge, hAr⟩
  · have dr : decide (r < 0) = true := decide_eq_true hlt
    have hrn : r + (n : Int) = (A : Int) := hAr.symm
    have hr1 : -140737488351232 ≤ r := by omega
    clear hlt hAr
    go_wp2_with (at_builtin; refine wpList_append_moved rfl _ _ 22 rfl w0.heap.size 5 iu (.int .u8 0) 1 1 Try.underlying22 hiu hu0 hu1 hu2 rfl (by decide) _ 0 [] rfl ad n c rfl ((nums bs).map (Value.int .u8)) ?h1 ?h2 ?h3 ?m1 ?m2 ?m3 ?_)
    case h1 => exact hown
    case h2 => exact hsrc
    case h3 => exact hone
    case m1 => unfold maxLen; omega
    case m2 => omega
    case m3 => exact hB1
    intro v2 w2 ho2 hg2 hm2
    have c2 : Chg (fun _ => False) w0 w2 := HC1.out.grown hg2 (fun j e => .inr (by simp [Value.ownBlock] at e; omega))
    try simp only [List.nil_append, Nat.zero_add] at ho2
    obtain ⟨g2, cp2, rfl, hcp, hgB, _, _, hfz, hcs⟩ := own_some ho2 (by have := HAN.out; omega)
    have hcA : w2.cell? ⟨g2, A, none⟩ = some (.int .u8 ((bs.getD A 0 : Nat) : Int)) := hcs A _ (by
      have h9 : bs[A]? = some (bs.getD A 0) := by rw [List.getD_eq_getElem?_getD, List.getElem?_eq_getElem (by rw [HBL.out]; exact HAN.out.1)]; rfl
      simp only [nums, List.map_map, List.getElem?_map, h9]
      rfl)
    have hfA := hfz A
    have hb9 : bs.getD A 0 < 256 := by
      rw [List.getD_eq_getElem?_getD]
      cases e : bs[A]? with
      | none => simp
      | some y => exact HR.out.2 y (List.mem_of_getElem? e)
    obtain ⟨Q, hQ⟩ : ∃ q, bs.getD A 0 = q := ⟨_, rfl⟩
    obtain ⟨N, hN⟩ : ∃ q, (bs.getD A 0 + z) % 256 = q := ⟨_, rfl⟩
    rw [hQ] at hcA hb9
    have hQi : (Q : Int) ≤ 255 := by omega
    have hwr : ((Q : Int) + (z : Int)) % 256 = (N : Int) := by rw [← hN, hQ]; omega
    have hwr2 : IntKind.u8.wrap ((Q : Int) + (z : Int)) = (N : Int) := by rw [← hwr]; simp [IntKind.wrap, IntKind.signed, IntKind.bits]
    have hN9 : N < 256 := by omega
    have hset := own_set ho2 A (.int .u8 (N : Int)) HAN.out.1
    have hst : ((nums bs).map (Value.int .u8)).set A (.int .u8 (N : Int)) = ins .u8 (nums (bs.set A ((bs.getD A 0 + z) % 256))) := by rw [hN]; simp [ins, nums, List.map_set]
    rw [hst] at hset
    have hCS : Chg (fun z => z = g2) w2 (w2.setCell ⟨g2, A, none⟩ (.int .u8 (N : Int))) := Chg.setCell (S := fun z => z = g2) (Chg.refl _ w2) (p := ⟨g2, A, none⟩) (.inl rfl) _
    have HC3 : Hid (Chg (fun _ => False) w0 (w2.setCell ⟨g2, A, none⟩ (.int .u8 (N : Int)))) := c2.trans hCS (fun z e => .inr (by rw [e]; exact hgB))
    obtain ⟨cs, hcsE⟩ : ∃ cs, bs.set A ((bs.getD A 0 + z) % 256) = cs := ⟨_, rfl⟩
    rw [hcsE] at hset
    have hcl : cs.length = n := by rw [← hcsE, List.length_set]; exact HBL.out
    have HCD : Hid (Rc.Dig cs) := fun y hy => by
      rw [← hcsE] at hy
      rcases List.mem_or_eq_of_mem_set hy with h | h
      · exact HR.out.2 y h
      · rw [h]; omega
    have HROW : Hid (Row8 (w2.setCell ⟨g2, A, none⟩ (.int .u8 (N : Int))) (some ⟨g2, 0, none⟩) n cp2 (nums cs)) := row8_own hset
    have HCE : Hid (bs.set A ((bs.getD A 0 + z) % 256) = cs ∧ cs.length = n) := ⟨hcsE, hcl⟩
    clear ho2 hg2 hm2 c2 hown hsrc hone hB1 HC1 hcp hgB hfz hcs hset hst hCS hcsE hcl hQ hN hb9 hN9
    go_upto_region 9 with fail
    generalize w2.setCell ⟨g2, A, none⟩ (.int .u8 (N : Int)) = W3 at *
    clear hcA hfA hwr hwr2 hQi
    have HB1 : Hid _ := both_any S d HGD.out.1 ad n c bs W3 (Bk.row8_chg HR.out.1 HC3.out) HR.out.2 (by omega)
    go_wp2_with fail
    refine Calls.mono HB1.out ?_
    rintro zz w4 ⟨x, y, rfl, hx, hy, _, c4⟩
    obtain ⟨xa, xc, rfl⟩ := byO_form hx
    obtain ⟨ya, yc, rfl⟩ := byO_form hy
    have hlx : (De19.cd false d bs).length = n := by rw [De19.cd_len]; exact HBL.out
    have hly : (De19.cd true d bs).length = n := by rw [De19.cd_len]; exact HBL.out
    rw [hlx, hly]
    rw [hlx] at hx
    rw [hly] at hy
    have HX : Hid (Row8 w4 xa n xc (nums (De19.cd false d bs)) ∧ Row8 w4 ya n yc (nums (De19.cd true d bs))) := ⟨byO_row' hx, byO_row' hy⟩
    have HC4 : Hid (Chg (fun _ => False) w0 w4) := chg_then HC3.out c4
    have HB2 : Hid _ := both_any S d HGD.out.1 (some ⟨g2, 0, none⟩) n cp2 cs w4 (Bk.row8_chg HROW.out c4) HCD.out (by omega)
    clear hx hy c4 HB1 hlx hly HROW HC3
    go_wp2_with fail
    refine Calls.mono HB2.out ?_
    rintro zz w5 ⟨u, v, rfl, hu, hv, _, c5⟩
    obtain ⟨ua, uc, rfl⟩ := byO_form hu
    obtain ⟨va, vc, rfl⟩ := byO_form hv
    have hlx : (De19.cd false d cs).length = n := by rw [De19.cd_len]; exact HCE.out.2
    have hly : (De19.cd true d cs).length = n := by rw [De19.cd_len]; exact HCE.out.2
    rw [hlx, hly]
    rw [hlx] at hu
    rw [hly] at hv
    have HC5 : Hid (Chg (fun _ => False) w0 w5) := chg_then HC4.out c5
    obtain ⟨xb, xo, rfl, hxc⟩ := row8_at (Bk.row8_chg HX.out.1 c5) HAN.out.2
    obtain ⟨yb, yo, rfl, hyc⟩ := row8_at (Bk.row8_chg HX.out.2 c5) HAN.out.2
    obtain ⟨ub, uo, rfl, huc⟩ := row8_at (byO_row' hu) HAN.out.2
    obtain ⟨vb, vo, rfl, hvc⟩ := row8_at (byO_row' hv) HAN.out.2
    have HCL : Hid (∀ i, i < n → w5.cell? ⟨xb, xo + i, none⟩ = some (.int .u8 (((De19.cd false d bs).getD i 0 : Nat) : Int)) ∧ w5.cell? ⟨yb, yo + i, none⟩ = some (.int .u8 (((De19.cd true d bs).getD i 0 : Nat) : Int)) ∧ w5.cell? ⟨ub, uo + i, none⟩ = some (.int .u8 (((De19.cd false d cs).getD i 0 : Nat) : Int)) ∧ w5.cell? ⟨vb, vo + i, none⟩ = some (.int .u8 (((De19.cd true d cs).getD i 0 : Nat) : Int))) := fun i hi => ⟨hxc i hi, hyc i hi, huc i hi, hvc i hi⟩
    have HDI : Hid (∀ i, i < n → De19.less ((De19.cd false d cs).getD i 0) ((De19.cd false d bs).getD i 0) = if i = A + d then (256 - z) % 256 else if i = A then z else 0) := fun i hi => by
      have h9 := De19.dif_one d HGD.out.2.1 bs HR.out.2 A z (by rw [HBL.out]; exact HAN.out.1) HZ.out i (by rw [HBL.out]; exact hi)
      rw [HCE.out.1] at h9
      exact h9
    have HSU : Hid (∀ i, i < n → De19.less ((De19.cd true d cs).getD i 0) ((De19.cd true d bs).getD i 0) = if A ≤ i ∧ (i - A) % d = 0 then z else 0) := fun i hi => by
      have h9 := De19.sum_one d HGD.out.2.1 bs HR.out.2 A z (by rw [HBL.out]; exact HAN.out.1) HZ.out i (by rw [HBL.out]; exact hi)
      rw [HCE.out.1] at h9
      exact h9
    have HBY : Hid (∀ i b l, (De19.cd b d l).getD i 0 < 256) := fun i b l => (De19.cd_by b d l).get i
    clear hu hv c5 HB2 hlx hly hxc hyc huc hvc HX HC4
    go_wp2_with fail
    go_loopw [17] (fun v17 wq => ∃ i q : Nat, i ≤ n ∧ v17 = .int .i64 (i : Int) ∧ wq = w5.drewN q) (fun v17 _ => n - (intOf v17).toNat)
    case atStart => exact ⟨0, 0, by omega, rfl, rfl⟩
    case round =>
      obtain ⟨i, q, hi, rfl, rfl⟩ := hrel
      have hii : (i : Int) ≤ 140737488351232 := by omega
      by_cases hin : i < n
      rotate_left
      · have d5 : decide (i < n) = false := decide_eq_false hin
        go_wp2
        go_ret
        exact ⟨rfl, chg_then HC5.out (chg_drewN w5 q)⟩
      · have d5 : decide (i < n) = true := decide_eq_true hin
        obtain ⟨kx, ky, ku, kv⟩ := HCL.out i hin
        have sd := sub8 _ _ (HBY.out i false cs) (HBY.out i false bs)
        have ss := sub8 _ _ (HBY.out i true cs) (HBY.out i true bs)
        rw [HDI.out i hin] at sd
        rw [HSU.out i hin] at ss
        have bx := HBY.out i false bs
        have by_ := HBY.out i true bs
        have bu := HBY.out i false cs
        have bv := HBY.out i true cs
        generalize (De19.cd false d bs).getD i 0 = X at *
        generalize (De19.cd true d bs).getD i 0 = Y at *
        generalize (De19.cd false d cs).getD i 0 = U at *
        generalize (De19.cd true d cs).getD i 0 = V at *
        have bxi : (X : Int) ≤ 255 := by omega
        have byi : (Y : Int) ≤ 255 := by omega
        have bui : (U : Int) ≤ 255 := by omega
        have bvi : (V : Int) ≤ 255 := by omega
        clear bx by_ bu bv
        have hneg : (-(z : Int)) % 256 = (((256 - z) % 256 : Nat) : Int) := by have := HZ.out; omega
        obtain ⟨ZN, hZN⟩ : ∃ q, (256 - z) % 256 = q := ⟨_, rfl⟩
        rw [hZN] at hneg sd
        have hZNi : (ZN : Int) ≤ 255 := by have : ZN < 256 := by omega
                                           omega
        have hdd : 1 ≤ d := HGD.out.2.1
        clear hZN
        obtain ⟨O, hO, hOb⟩ : ∃ o : Int, (0 : Int) = o ∧ (o == 0) = true := ⟨0, rfl, rfl⟩
        by_cases hlt : i < A
        · have g1 : decide ((A : Int) ≤ (i : Int)) = false := decide_eq_false (by omega)
          have g1' : decide (A ≤ i) = false := decide_eq_false (by omega)
          have g2 : ((i : Int) == (A : Int)) = false := by simp; omega
          have g3 : ((i : Int) == (A : Int) + (d : Int)) = false := by simp; omega
          rw [if_neg (by omega), if_neg (by omega)] at sd
          rw [if_neg (by omega)] at ss
          replace sd : IntKind.u8.wrap ((U : Int) - (X : Int)) = 0 := by simp only [IntKind.wrap, IntKind.signed, IntKind.bits]; exact sd
          replace ss : IntKind.u8.wrap ((V : Int) - (Y : Int)) = 0 := by simp only [IntKind.wrap, IntKind.signed, IntKind.bits]; exact ss
          clear hdd hO
          go_wp2_with fail
          go_quiet (fail)
          go_wp2_with fail
          exact ⟨⟨i + 1, _, by omega, by go_num, rfl⟩, by simp [intOf]; omega⟩
        · have g1 : decide ((A : Int) ≤ (i : Int)) = true := decide_eq_true (by omega)
          have g1' : decide (A ≤ i) = true := decide_eq_true (by omega)
          by_cases he : i = A
          · have g2 : ((i : Int) == (A : Int)) = true := by simp [he]
            have g3 : ((i : Int) == (A : Int) + (d : Int)) = false := by simp; omega
            have h00 : (i - A) % d = 0 := by rw [he]; simp
            have t1 : ((i : Int) - (A : Int)).tmod (d : Int) = (((i - A) % d : Nat) : Int) := by rw [show (i : Int) - (A : Int) = ((i - A : Nat) : Int) by omega]; rfl
            obtain ⟨RM, hRM⟩ : ∃ q, (i - A) % d = q := ⟨_, rfl⟩
            rw [hRM] at t1 ss
            rw [if_neg (by omega), if_pos he] at sd
            rw [hRM] at h00
            subst h00
            rw [if_pos ⟨by omega, rfl⟩] at ss
            clear hRM he
            clear hdd hO
            go_wp2_with fail
            go_quiet (fail)
            go_wp2_with fail
            exact ⟨⟨i + 1, _, by omega, by go_num, rfl⟩, by simp [intOf]; omega⟩
          · have g2 : ((i : Int) == (A : Int)) = false := by simp; omega
            by_cases hf : i = A + d
            · have g3 : ((i : Int) == (A : Int) + (d : Int)) = true := by simp; omega
              have h00 : (i - A) % d = 0 := by rw [hf]; simp
              have t1 : ((i : Int) - (A : Int)).tmod (d : Int) = (((i - A) % d : Nat) : Int) := by rw [show (i : Int) - (A : Int) = ((i - A : Nat) : Int) by omega]; rfl
              obtain ⟨RM, hRM⟩ : ∃ q, (i - A) % d = q := ⟨_, rfl⟩
              rw [hRM] at t1 ss
              rw [if_pos hf] at sd
              rw [hRM] at h00
              subst h00
              rw [if_pos ⟨by omega, rfl⟩] at ss
              clear hRM he hf
              clear hdd hO
              go_wp2_with fail
              go_quiet (fail)
              go_wp2_with fail
              exact ⟨⟨i + 1, _, by omega, by go_num, rfl⟩, by simp [intOf]; omega⟩
            · have g3 : ((i : Int) == (A : Int) + (d : Int)) = false := by simp; omega
              rw [if_neg hf, if_neg he] at sd
              replace sd : IntKind.u8.wrap ((U : Int) - (X : Int)) = 0 := by simp only [IntKind.wrap, IntKind.signed, IntKind.bits]; exact sd
              have t1 : ((i : Int) - (A : Int)).tmod (d : Int) = (((i - A) % d : Nat) : Int) := by rw [show (i : Int) - (A : Int) = ((i - A : Nat) : Int) by omega]; rfl
              obtain ⟨RM, hRM⟩ : ∃ q, (i - A) % d = q := ⟨_, rfl⟩
              rw [hRM] at t1 ss
              by_cases hz0 : RM = 0
              · subst hz0
                rw [if_pos ⟨by omega, rfl⟩] at ss
                clear hRM he hf
                clear hdd hO
                go_wp2_with fail
                go_quiet (fail)
                go_wp2_with fail
                exact ⟨⟨i + 1, _, by omega, by go_num, rfl⟩, by simp [intOf]; omega⟩
              · rw [if_neg (by omega)] at ss
                replace ss : IntKind.u8.wrap ((V : Int) - (Y : Int)) = 0 := by simp only [IntKind.wrap, IntKind.signed, IntKind.bits]; exact ss
                have g4 : ((RM : Int) == 0) = false := by simp; omega
                clear hRM he hf
                clear hdd hO
                go_wp2_with fail
                go_quiet (fail)
                go_wp2_with fail
                exact ⟨⟨i + 1, _, by omega, by go_num, rfl⟩, by simp [intOf]; omega⟩
  · subst hAr
    have dr : decide ((A : Int) < 0) = false := decide_eq_false (by omega)
    have dr2 : decide (A < 0) = false := decide_eq_false (by omega)
    clear hge
    go_wp2_with (at_builtin; refine wpList_append_moved rfl _ _ 22 rfl w0.heap.size 5 iu (.int .u8 0) 1 1 Try.underlying22 hiu hu0 hu1 hu2 rfl (by decide) _ 0 [] rfl ad n c rfl ((nums bs).map (Value.int .u8)) ?h1 ?h2 ?h3 ?m1 ?m2 ?m3 ?_)
    case h1 => exact hown
    case h2 => exact hsrc
    case h3 => exact hone
    case m1 => unfold maxLen; omega
    case m2 => omega
    case m3 => exact hB1
    intro v2 w2 ho2 hg2 hm2
    have c2 : Chg (fun _ => False) w0 w2 := HC1.out.grown hg2 (fun j e => .inr (by simp [Value.ownBlock] at e; omega))
    try simp only [List.nil_append, Nat.zero_add] at ho2
    obtain ⟨g2, cp2, rfl, hcp, hgB, _, _, hfz, hcs⟩ := own_some ho2 (by have := HAN.out; omega)
    have hcA : w2.cell? ⟨g2, A, none⟩ = some (.int .u8 ((bs.getD A 0 : Nat) : Int)) := hcs A _ (by
      have h9 : bs[A]? = some (bs.getD A 0) := by rw [List.getD_eq_getElem?_getD, List.getElem?_eq_getElem (by rw [HBL.out]; exact HAN.out.1)]; rfl
      simp only [nums, List.map_map, List.getElem?_map, h9]
      rfl)
    have hfA := hfz A
    have hb9 : bs.getD A 0 < 256 := by
      rw [List.getD_eq_getElem?_getD]
      cases e : bs[A]? with
      | none => simp
      | some y => exact HR.out.2 y (List.mem_of_getElem? e)
    obtain ⟨Q, hQ⟩ : ∃ q, bs.getD A 0 = q := ⟨_, rfl⟩
    obtain ⟨N, hN⟩ : ∃ q, (bs.getD A 0 + z) % 256 = q := ⟨_, rfl⟩
    rw [hQ] at hcA hb9
    have hQi : (Q : Int) ≤ 255 := by omega
    have hwr : ((Q : Int) + (z : Int)) % 256 = (N : Int) := by rw [← hN, hQ]; omega
    have hwr2 : IntKind.u8.wrap ((Q : Int) + (z : Int)) = (N : Int) := by rw [← hwr]; simp [IntKind.wrap, IntKind.signed, IntKind.bits]
    have hN9 : N < 256 := by omega
    have hset := own_set ho2 A (.int .u8 (N : Int)) HAN.out.1
    have hst : ((nums bs).map (Value.int .u8)).set A (.int .u8 (N : Int)) = ins .u8 (nums (bs.set A ((bs.getD A 0 + z) % 256))) := by rw [hN]; simp [ins, nums, List.map_set]
    rw [hst] at hset
    have hCS : Chg (fun z => z = g2) w2 (w2.setCell ⟨g2, A, none⟩ (.int .u8 (N : Int))) := Chg.setCell (S := fun z => z = g2) (Chg.refl _ w2) (p := ⟨g2, A, none⟩) (.inl rfl) _
    have HC3 : Hid (Chg (fun _ => False) w0 (w2.setCell ⟨g2, A, none⟩ (.int .u8 (N : Int)))) := c2.trans hCS (fun z e => .inr (by rw [e]; exact hgB))
    obtain ⟨cs, hcsE⟩ : ∃ cs, bs.set A ((bs.getD A 0 + z) % 256) = cs := ⟨_, rfl⟩
    rw [hcsE] at hset
    have hcl : cs.length = n := by rw [← hcsE, List.length_set]; exact HBL.out
    have HCD : Hid (Rc.Dig cs) := fun y hy => by
      rw [← hcsE] at hy
      rcases List.mem_or_eq_of_mem_set hy with h | h
      · exact HR.out.2 y h
      · rw [h]; omega
    have HROW : Hid (Row8 (w2.setCell ⟨g2, A, none⟩ (.int .u8 (N : Int))) (some ⟨g2, 0, none⟩) n cp2 (nums cs)) := row8_own hset
    have HCE : Hid (bs.set A ((bs.getD A 0 + z) % 256) = cs ∧ cs.length = n) := ⟨hcsE, hcl⟩
    clear ho2 hg2 hm2 c2 hown hsrc hone hB1 HC1 hcp hgB hfz hcs hset hst hCS hcsE hcl hQ hN hb9 hN9
    go_upto_region 9 with fail
    generalize w2.setCell ⟨g2, A, none⟩ (.int .u8 (N : Int)) = W3 at *
    clear hcA hfA hwr hwr2 hQi
    have HB1 : Hid _ := both_any S d HGD.out.1 ad n c bs W3 (Bk.row8_chg HR.out.1 HC3.out) HR.out.2 (by omega)
    go_wp2_with fail
    refine Calls.mono HB1.out ?_
    rintro zz w4 ⟨x, y, rfl, hx, hy, _, c4⟩
    obtain ⟨xa, xc, rfl⟩ := byO_form hx
    obtain ⟨ya, yc, rfl⟩ := byO_form hy
    have hlx : (De19.cd false d bs).length = n := by rw [De19.cd_len]; exact HBL.out
    have hly : (De19.cd true d bs).length = n := by rw [De19.cd_len]; exact HBL.out
    rw [hlx, hly]
    rw [hlx] at hx
    rw [hly] at hy
    have HX : Hid (Row8 w4 xa n xc (nums (De19.cd false d bs)) ∧ Row8 w4 ya n yc (nums (De19.cd true d bs))) := ⟨byO_row' hx, byO_row' hy⟩
    have HC4 : Hid (Chg (fun _ => False) w0 w4) := chg_then HC3.out c4
    have HB2 : Hid _ := both_any S d HGD.out.1 (some ⟨g2, 0, none⟩) n cp2 cs w4 (Bk.row8_chg HROW.out c4) HCD.out (by omega)
    clear hx hy c4 HB1 hlx hly HROW HC3
    go_wp2_with fail
    refine Calls.mono HB2.out ?_
    rintro zz w5 ⟨u, v, rfl, hu, hv, _, c5⟩
    obtain ⟨ua, uc, rfl⟩ := byO_form hu
    obtain ⟨va, vc, rfl⟩ := byO_form hv
    have hlx : (De19.cd false d cs).length = n := by rw [De19.cd_len]; exact HCE.out.2
    have hly : (De19.cd true d cs).length = n := by rw [De19.cd_len]; exact HCE.out.2
    rw [hlx, hly]
    rw [hlx] at hu
    rw [hly] at hv
    have HC5 : Hid (Chg (fun _ => False) w0 w5) := chg_then HC4.out c5
    obtain ⟨xb, xo, rfl, hxc⟩ := row8_at (Bk.row8_chg HX.out.1 c5) HAN.out.2
    obtain ⟨yb, yo, rfl, hyc⟩ := row8_at (Bk.row8_chg HX.out.2 c5) HAN.out.2
    obtain ⟨ub, uo, rfl, huc⟩ := row8_at (byO_row' hu) HAN.out.2
    obtain ⟨vb, vo, rfl, hvc⟩ := row8_at (byO_row' hv) HAN.out.2
    have HCL : Hid (∀ i, i < n → w5.cell? ⟨xb, xo + i, none⟩ = some (.int .u8 (((De19.cd false d bs).getD i 0 : Nat) : Int)) ∧ w5.cell? ⟨yb, yo + i, none⟩ = some (.int .u8 (((De19.cd true d bs).getD i 0 : Nat) : Int)) ∧ w5.cell? ⟨ub, uo + i, none⟩ = some (.int .u8 (((De19.cd false d cs).getD i 0 : Nat) : Int)) ∧ w5.cell? ⟨vb, vo + i, none⟩ = some (.int .u8 (((De19.cd true d cs).getD i 0 : Nat) : Int))) := fun i hi => ⟨hxc i hi, hyc i hi, huc i hi, hvc i hi⟩
    have HDI : Hid (∀ i, i < n → De19.less ((De19.cd false d cs).getD i 0) ((De19.cd false d bs).getD i 0) = if i = A + d then (256 - z) % 256 else if i = A then z else 0) := fun i hi => by
      have h9 := De19.dif_one d HGD.out.2.1 bs HR.out.2 A z (by rw [HBL.out]; exact HAN.out.1) HZ.out i (by rw [HBL.out]; exact hi)
      rw [HCE.out.1] at h9
      exact h9
    have HSU : Hid (∀ i, i < n → De19.less ((De19.cd true d cs).getD i 0) ((De19.cd true d bs).getD i 0) = if A ≤ i ∧ (i - A) % d = 0 then z else 0) := fun i hi => by
      have h9 := De19.sum_one d HGD.out.2.1 bs HR.out.2 A z (by rw [HBL.out]; exact HAN.out.1) HZ.out i (by rw [HBL.out]; exact hi)
      rw [HCE.out.1] at h9
      exact h9
    have HBY : Hid (∀ i b l, (De19.cd b d l).getD i 0 < 256) := fun i b l => (De19.cd_by b d l).get i
    clear hu hv c5 HB2 hlx hly hxc hyc huc hvc HX HC4
    go_wp2_with fail
    go_loopw [17] (fun v17 wq => ∃ i q : Nat, i ≤ n ∧ v17 = .int .i64 (i : Int) ∧ wq = w5.drewN q) (fun v17 _ => n - (intOf v17).toNat)
    case atStart => exact ⟨0, 0, by omega, rfl, rfl⟩
    case round =>
      obtain ⟨i, q, hi, rfl, rfl⟩ := hrel
      have hii : (i : Int) ≤ 140737488351232 := by omega
      by_cases hin : i < n
      rotate_left
      · have d5 : decide (i < n) = false := decide_eq_false hin
        go_wp2
        go_ret
        exact ⟨rfl, chg_then HC5.out (chg_drewN w5 q)⟩
      · have d5 : decide (i < n) = true := decide_eq_true hin
        obtain ⟨kx, ky, ku, kv⟩ := HCL.out i hin
        have sd := sub8 _ _ (HBY.out i false cs) (HBY.out i false bs)
        have ss := sub8 _ _ (HBY.out i true cs) (HBY.out i true bs)
        rw [HDI.out i hin] at sd
        rw [HSU.out i hin] at ss
        have bx := HBY.out i false bs
        have by_ := HBY.out i true bs
        have bu := HBY.out i false cs
        have bv := HBY.out i true cs
        generalize (De19.cd false d bs).getD i 0 = X at *
        generalize (De19.cd true d bs).getD i 0 = Y at *
        generalize (De19.cd false d cs).getD i 0 = U at *
        generalize (De19.cd true d cs).getD i 0 = V at *
        have bxi : (X : Int) ≤ 255 := by omega
        have byi : (Y : Int) ≤ 255 := by omega
        have bui : (U : Int) ≤ 255 := by omega
        have bvi : (V : Int) ≤ 255 := by omega
        clear bx by_ bu bv
        have hneg : (-(z : Int)) % 256 = (((256 - z) % 256 : Nat) : Int) := by have := HZ.out; omega
        obtain ⟨ZN, hZN⟩ : ∃ q, (256 - z) % 256 = q := ⟨_, rfl⟩
        rw [hZN] at hneg sd
        have hZNi : (ZN : Int) ≤ 255 := by have : ZN < 256 := by omega
                                           omega
        have hdd : 1 ≤ d := HGD.out.2.1
        clear hZN
        obtain ⟨O, hO, hOb⟩ : ∃ o : Int, (0 : Int) = o ∧ (o == 0) = true := ⟨0, rfl, rfl⟩
        by_cases hlt : i < A
        · have g1 : decide ((A : Int) ≤ (i : Int)) = false := decide_eq_false (by omega)
          have g1' : decide (A ≤ i) = false := decide_eq_false (by omega)
          have g2 : ((i : Int) == (A : Int)) = false := by simp; omega
          have g3 : ((i : Int) == (A : Int) + (d : Int)) = false := by simp; omega
          rw [if_neg (by omega), if_neg (by omega)] at sd
          rw [if_neg (by omega)] at ss
          replace sd : IntKind.u8.wrap ((U : Int) - (X : Int)) = 0 := by simp only [IntKind.wrap, IntKind.signed, IntKind.bits]; exact sd
          replace ss : IntKind.u8.wrap ((V : Int) - (Y : Int)) = 0 := by simp only [IntKind.wrap, IntKind.signed, IntKind.bits]; exact ss
          clear hdd hO
          go_wp2_with fail
          go_quiet (fail)
          go_wp2_with fail
          exact ⟨⟨i + 1, _, by omega, by go_num, rfl⟩, by simp [intOf]; omega⟩
        · have g1 : decide ((A : Int) ≤ (i : Int)) = true := decide_eq_true (by omega)
          have g1' : decide (A ≤ i) = true := decide_eq_true (by omega)
          by_cases he : i = A
          · have g2 : ((i : Int) == (A : Int)) = true := by simp [he]
            have g3 : ((i : Int) == (A : Int) + (d : Int)) = false := by simp; omega
            have h00 : (i - A) % d = 0 := by rw [he]; simp
            have t1 : ((i : Int) - (A : Int)).tmod (d : Int) = (((i - A) % d : Nat) : Int) := by rw [show (i : Int) - (A : Int) = ((i - A : Nat) : Int) by omega]; rfl
            obtain ⟨RM, hRM⟩ : ∃ q, (i - A) % d = q := ⟨_, rfl⟩
            rw [hRM] at t1 ss
            rw [if_neg (by omega), if_pos he] at sd
            rw [hRM] at h00
            subst h00
            rw [if_pos ⟨by omega, rfl⟩] at ss
            clear hRM he
            clear hdd hO
            go_wp2_with fail
            go_quiet (fail)
            go_wp2_with fail
            exact ⟨⟨i + 1, _, by omega, by go_num, rfl⟩, by simp [intOf]; omega⟩
          · have g2 : ((i : Int) == (A : Int)) = false := by simp; omega
            by_cases hf : i = A + d
            · have g3 : ((i : Int) == (A : Int) + (d : Int)) = true := by simp; omega
              have h00 : (i - A) % d = 0 := by rw [hf]; simp
              have t1 : ((i : Int) - (A : Int)).tmod (d : Int) = (((i - A) % d : Nat) : Int) := by rw [show (i : Int) - (A : Int) = ((i - A : Nat) : Int) by omega]; rfl
              obtain ⟨RM, hRM⟩ : ∃ q, (i - A) % d = q := ⟨_, rfl⟩
              rw [hRM] at t1 ss
              rw [if_pos hf] at sd
              rw [hRM] at h00
              subst h00
              rw [if_pos ⟨by omega, rfl⟩] at ss
              clear hRM he hf
              clear hdd hO
              go_wp2_with fail
              go_quiet (fail)
              go_wp2_with fail
              exact ⟨⟨i + 1, _, by omega, by go_num, rfl⟩, by simp [intOf]; omega⟩
            · have g3 : ((i : Int) == (A : Int) + (d : Int)) = false := by simp; omega
              rw [if_neg hf, if_neg he] at sd
              replace sd : IntKind.u8.wrap ((U : Int) - (X : Int)) = 0 := by simp only [IntKind.wrap, IntKind.signed, IntKind.bits]; exact sd
              have t1 : ((i : Int) - (A : Int)).tmod (d : Int) = (((i - A) % d : Nat) : Int) := by rw [show (i : Int) - (A : Int) = ((i - A : Nat) : Int) by omega]; rfl
              obtain ⟨RM, hRM⟩ : ∃ q, (i - A) % d = q := ⟨_, rfl⟩
              rw [hRM] at t1 ss
              by_cases hz0 : RM = 0
              · subst hz0
                rw [if_pos ⟨by omega, rfl⟩] at ss
                clear hRM he hf
                clear hdd hO
                go_wp2_with fail
                go_quiet (fail)
                go_wp2_with fail
                exact ⟨⟨i + 1, _, by omega, by go_num, rfl⟩, by simp [intOf]; omega⟩
              · rw [if_neg (by omega)] at ss
                replace ss : IntKind.u8.wrap ((V : Int) - (Y : Int)) = 0 := by simp only [IntKind.wrap, IntKind.signed, IntKind.bits]; exact ss
                have g4 : ((RM : Int) == 0) = false := by simp; omega
                clear hRM he hf
                clear hdd hO
                go_wp2_with fail
                go_quiet (fail)
                go_wp2_with fail
                exact ⟨⟨i + 1, _, by omega, by go_num, rfl⟩, by simp [intOf]; omega⟩
theorem done_u8 (S : DeltaSpec Fi) (ad : Option Addr) (n c : Nat) (bs : List Nat) (m a z : Int) (hm : I64 m) (ha : I64 a) (hz : 0 ≤ z ∧ z ≤ 255) (w0 : World) (hr : Row8 w0 ad n c (nums bs)) (hg : Rc.Dig bs) (hn : n ≤ 140737488351232) : Calls Try.prog 5 #[.slice ad n c, .int .i64 m, .int .i64 a, .int .u8 z] w0 fun e w' => e = .returned (.bool true) ∧ Chg (fun _ => False) w0 w' := by
  obtain ⟨y, rfl⟩ : ∃ y : Nat, z = (y : Int) := ⟨z.toNat, by omega⟩
  exact done_any S ad n c bs m a y hm ha (by omega) w0 hr hg hn
end Go.Proofs.Ytefplppgkoanbaa
