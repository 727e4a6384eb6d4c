/- What is asked of the program's frame ('FrameSpec'); what the law holds fixed; kinds, joined; of no statement by themselves. -/
import Derived.Test.YtikokgngkagieaaDoorFra
import Derived.Test.YtikokgngkagieaaDoorLastQ
import Derived.Test.YtikokgngkagieaaDoorBk
import Derived.Test.YtikokgngkagieaaDoorWirm
import Derived.Lib.SlBytesConst
import Derived.Deep.DeepCutAuto
import Derived.Great.BuildSlice
import Derived.BigQuiet
import Derived.BigRegion
import Derived.Deep.QuietTactic
namespace Go.Proofs.YtikokgngkagieaaDoor
open Go.RowKit
set_option linter.unusedVariables false
set_option linter.unusedSimpArgs false
structure FrameSpec (Tab : World → Prop) : Prop where
  keep : ∀ {w w'}, Tab w → Chg (fun _ => False) w w' → Tab w'
  head : ∀ (k : Int) (w : World), Tab w → I64 k → Calls Tryd.prog 8 #[.int .i64 k] w fun e w' => ∃ ov, e = .returned (.tuple #[ov, .int .i64 (Fr24.headF k).2]) ∧ ByO w' w.heap.size ov (Fr24.headF k).1 ∧ Chg (fun _ => False) w w'
  foot : ∀ (k n : Int) (w : World), Tab w → I64 k → I64 n → Calls Tryd.prog 9 #[.int .i64 k, .int .i64 n] w fun e w' => ∃ ov, e = .returned (.tuple #[ov, .int .i64 (Fr24.footF k n).2]) ∧ ByO w' w.heap.size ov (Fr24.footF k n).1 ∧ Chg (fun _ => False) w w'
  rhead : ∀ (ad : Option Addr) (n c : Nat) (bs : List Nat) (w : World), Tab w → Row8 w ad n c (nums bs) → Rc.Dig bs → n ≤ c → n ≤ 140737488355328 → Calls Tryd.prog 11 #[.slice ad n c] w fun e w' => e = .returned (.tuple #[.int .i64 (Fr24.rheadF bs).1, .int .i64 (Fr24.rheadF bs).2]) ∧ Chg (fun _ => False) w w'
  rfoot : ∀ (ad : Option Addr) (n c : Nat) (bs : List Nat) (w : World), Tab w → Row8 w ad n c (nums bs) → Rc.Dig bs → n ≤ c → n ≤ 140737488355328 → Calls Tryd.prog 13 #[.slice ad n c] w fun e w' => e = .returned (.tuple #[.int .i64 (Fr24.rfootF bs).1, .int .i64 (Fr24.rfootF bs).2.1, .int .i64 (Fr24.rfootF bs).2.2]) ∧ Chg (fun _ => False) w w'
theorem fix_head4 : Fr24.headF 4 = ([253, 55, 122, 88, 90, 0, 0, 4, 230, 214, 180, 70], 0) := by decide +kernel
theorem fix_foot48 : Fr24.footF 4 8 = ([31, 182, 243, 125, 1, 0, 0, 0, 0, 4, 89, 90], 0) := by decide +kernel
theorem fix_rhead : Fr24.rheadF [253, 55, 122, 88, 90, 0, 0, 4, 230, 214, 180, 70] = (4, 0) := by decide +kernel
theorem fix_rfoot : Fr24.rfootF [31, 182, 243, 125, 1, 0, 0, 0, 0, 4, 89, 90] = (4, 8, 0) := by decide +kernel
variable {Tab : World → Prop}
set_option maxHeartbeats 8000000 in
set_option maxRecDepth 100000 in
theorem fixed24_any (S : FrameSpec Tab) (w : World) (hT : Tab w) : Calls Tryd.prog 10 #[] w fun e w' => e = .returned (.bool true) ∧ Chg (fun _ => False) w w' := by
  have HT : Hid (Tab w) := hT
  have HH : Hid _ := S.head 4 w hT (by unfold I64; omega)
  rw [fix_head4] at HH
  clear hT
  go_enter Tryd.func10, Tryd.ntmps10
  go_wp2_with fail
  refine Calls.mono HH.out ?_
  rintro z w1 ⟨ov, rfl, ho, c1⟩
  obtain ⟨oa, oc, rfl⟩ := byO_form ho
  have HO1 : Hid (ByO w1 w.heap.size (.slice oa 12 oc) [253, 55, 122, 88, 90, 0, 0, 4, 230, 214, 180, 70]) := ho
  have HC1 : Hid (Chg (fun _ => False) w w1) := c1
  have HF : Hid _ := S.foot 4 8 w1 (S.keep HT.out c1) (by unfold I64; omega) (by unfold I64; omega)
  rw [fix_foot48] at HF
  clear ho c1 HH
  go_wp2_with fail
  refine Calls.mono HF.out ?_
  rintro z w2 ⟨fv, rfl, hf, c2⟩
  obtain ⟨fa, fc, rfl⟩ := byO_form hf
  have HF2 : Hid (ByO w2 w1.heap.size (.slice fa 12 fc) [31, 182, 243, 125, 1, 0, 0, 0, 0, 4, 89, 90]) := hf
  have HO2 : Hid (ByO w2 w.heap.size (.slice oa 12 oc) [253, 55, 122, 88, 90, 0, 0, 4, 230, 214, 180, 70]) := HO1.out.new c2
  have HC2 : Hid (Chg (fun _ => False) w w2) := chg_then HC1.out c2
  have HR : Hid _ := S.rhead oa 12 oc _ w2 (S.keep HT.out HC2.out) (byO_row HO2.out).1 (by intro x hx; simp at hx; omega) (byO_row HO2.out).2.2 (by decide)
  rw [fix_rhead] at HR
  clear hf c2 HF HO1 HC1
  go_wp2_with fail
  refine Calls.mono HR.out ?_
  rintro z w3 ⟨rfl, c3⟩
  have HF3 : Hid (ByO w3 w1.heap.size (.slice fa 12 fc) [31, 182, 243, 125, 1, 0, 0, 0, 0, 4, 89, 90]) := HF2.out.new c3
  have HO3 : Hid (ByO w3 w.heap.size (.slice oa 12 oc) [253, 55, 122, 88, 90, 0, 0, 4, 230, 214, 180, 70]) := HO2.out.new c3
  have HC3 : Hid (Chg (fun _ => False) w w3) := chg_then HC2.out c3
  have HQ : Hid _ := S.rfoot fa 12 fc _ w3 (S.keep HT.out HC3.out) (byO_row HF3.out).1 (by intro x hx; simp at hx; omega) (byO_row HF3.out).2.2 (by decide)
  rw [fix_rfoot] at HQ
  clear c3 HR HO2 HF2 HC2
  go_wp2_with fail
  refine Calls.mono HQ.out ?_
  rintro z w4 ⟨rfl, c4⟩
  have HC4 : Hid (Chg (fun _ => False) w w4) := chg_then HC3.out c4
  have hcv0 : (convert 22 9 (.slice oa 12 oc)).run Tryd.prog w4 = .ok (.string (strOfNums (nums [253, 55, 122, 88, 90, 0, 0, 4, 230, 214, 180, 70]))) w4 := Bk.conv8_here (byO_row (HO3.out.new c4)).1
  have hcv1 : (convert 22 9 (.slice fa 12 fc)).run Tryd.prog w4 = .ok (.string (strOfNums (nums [31, 182, 243, 125, 1, 0, 0, 0, 0, 4, 89, 90]))) w4 := Bk.conv8_here (byO_row (HF3.out.new c4)).1
  have hs0 : ((strOfNums (nums [253, 55, 122, 88, 90, 0, 0, 4, 230, 214, 180, 70])).toList == [253, 55, 122, 88, 90, 0, 0, 4, 230, 214, 180, 70]) = true := by decide +kernel
  have hs1 : ((strOfNums (nums [31, 182, 243, 125, 1, 0, 0, 0, 0, 4, 89, 90])).toList == [31, 182, 243, 125, 1, 0, 0, 0, 0, 4, 89, 90]) = true := by decide +kernel
  generalize strOfNums (nums [253, 55, 122, 88, 90, 0, 0, 4, 230, 214, 180, 70]) = S0 at *
  generalize strOfNums (nums [31, 182, 243, 125, 1, 0, 0, 0, 0, 4, 89, 90]) = S1 at *
  clear c4 HQ HO3 HF3 HC3
  go_wp2
  go_ret
  exact ⟨rfl, HC4.out⟩
theorem w64x {n : Int} (h0 : 0 ≤ n) (h1 : n < 18446744073709551616) : IntKind.u64.wrap n = n := by
  have e : IntKind.u64.wrap n = n % 18446744073709551616 := by simp [IntKind.wrap, IntKind.signed, IntKind.bits]
  rw [e]
  exact Int.emod_eq_of_lt h0 h1
/-- Of a number its kind. -/
def kd (n : Int) : Nat := [0, 1, 4, 10].getD ((IntKind.u64.wrap n % 4).toNat) 0
theorem kd_kind (n : Int) : Fr24.kind (kd n : Int) = true := by
  unfold kd
  obtain ⟨m, hm⟩ : ∃ m, (IntKind.u64.wrap n % 4).toNat = m := ⟨_, rfl⟩
  have : m < 4 := by omega
  rw [hm]
  match m, this with
  | 0, _ => rfl
  | 1, _ => rfl
  | 2, _ => rfl
  | 3, _ => rfl
set_option maxHeartbeats 4000000 in
set_option maxRecDepth 100000 in
theorem kinds_any (n : Int) (w : World) : Calls Tryd.prog 7 #[.int .i64 n] w fun e w' => e = .returned (.int .i64 (kd n : Int)) ∧ Chg (fun _ => False) w w' := by
  have cA := chg_one w (.cells #[.int .i64 0, .int .i64 1, .int .i64 4, .int .i64 10] 3)
  have bA := heap_alloc_last w (.cells #[.int .i64 0, .int .i64 1, .int .i64 4, .int .i64 10] 3)
  have HC : Hid (Chg (fun _ => False) w (w.alloc (.cells #[.int .i64 0, .int .i64 1, .int .i64 4, .int .i64 10] 3))) := cA
  have HU : Hid (0 ≤ IntKind.u64.wrap n) := by
    have e : IntKind.u64.wrap n = n % 18446744073709551616 := by simp [IntKind.wrap, IntKind.signed, IntKind.bits]
    show _ ≤ _
    rw [e]
    omega
  unfold kd
  obtain ⟨U, hU⟩ : ∃ u, IntKind.u64.wrap n = u := ⟨_, rfl⟩
  rw [hU] at HU ⊢
  have hm4 : (U % 4).toNat < 4 := by omega
  have x0 : (w.alloc (.cells #[.int .i64 0, .int .i64 1, .int .i64 4, .int .i64 10] 3)).cell? ⟨w.heap.size, (U % 4).toNat, none⟩ = some (.int .i64 (([0, 1, 4, 10].getD (U % 4).toNat 0 : Nat) : Int)) := by
    simp only [World.cell?, bA]
    generalize (U % 4).toNat = m at *
    match m, hm4 with
    | 0, _ => rfl
    | 1, _ => rfl
    | 2, _ => rfl
    | 3, _ => rfl
  have hU0 := HU.out
  have d1 : decide (U % 4 < 4) = true := decide_eq_true (by omega)
  have d0 : decide (0 ≤ U % 4) = true := decide_eq_true (by omega)
  have h4 : U % 4 < 4 := by omega
  have h0 : 0 ≤ U % 4 := by omega
  obtain ⟨V, hV⟩ : ∃ V, (([0, 1, 4, 10].getD (U % 4).toNat 0 : Nat) : Int) = V := ⟨_, rfl⟩
  rw [hV] at x0 ⊢
  clear cA bA hV
  go_enter Tryd.func7, Tryd.ntmps7
  go_wp2
  go_ret
  exact ⟨rfl, HC.out⟩
/-- x with y behind it, new memory. -/
theorem joined_any (a b : Option Addr) (n c m d : Nat) (xs ys : List Nat) (w : World) (hx : Row8 w a n c (nums xs)) (hy : Row8 w b m d (nums ys)) (hl : n + m ≤ 140737488355328) : Calls Tryd.prog 12 #[.slice a n c, .slice b m d] w fun e w' => ∃ oa oc, e = .returned (.slice oa (n + m) oc) ∧ ByO w' w.heap.size (.slice oa (n + m) oc) (xs ++ ys) ∧ Chg (fun _ => False) w w' := by
  obtain ⟨iu, hiu, hu0, hu1, hu2⟩ := info_parts info5u
  have HX : Hid (Row8 w a n c (nums xs)) := hx
  have HY : Hid (Row8 w b m d (nums ys)) := hy
  have HL : Hid (n + m ≤ 140737488355328) := hl
  have hnl : xs.length = n := by have h9 := hx.1; rw [nums_len] at h9; exact h9
  have cZ := chg_one w (.cells #[] 5)
  have hown := own_empty w 5
  have hsrc := (Bk.row8_chg hx cZ).src
  have hB3 : w.heap.size ≤ (w.alloc (.cells #[] 5)).heap.size := cZ.size
  have HCZ : Hid (Chg (fun _ => False) w (w.alloc (.cells #[] 5))) := cZ
  clear cZ hx hy hl
  go_enter Tryd.func12, Tryd.ntmps12
  go_wp2_with (at_builtin; refine wpList_append_moved rfl _ _ 22 rfl w.heap.size 5 iu (.int .u8 0) 1 1 Tryd.underlying22 hiu hu0 hu1 hu2 rfl (by decide) _ 0 [] rfl a n c rfl ((nums xs).map (Value.int .u8)) ?h1 ?h2 ?h3 ?m1 ?m2 ?m3 ?_)
  case h1 => exact hown
  case h2 => exact hsrc
  case h3 => exact oneB _
  case m1 => have := HL.out; unfold maxLen; omega
  case m2 => have := HL.out; omega
  case m3 => exact hB3
  intro v3 w3 ho3 hg3 hm3
  have c3 : Chg (fun _ => False) w w3 := HCZ.out.grown hg3 (fun j e => .inr (by simp [Value.ownBlock] at e; omega))
  try simp only [List.nil_append, Nat.zero_add] at ho3
  obtain ⟨ja, jc, rfl⟩ := form1 ho3
  have hown3 := ho3
  have hsrc3 := (Bk.row8_chg HY.out c3).src
  have hB4 : w.heap.size ≤ w3.heap.size := c3.size
  have HC3 : Hid (Chg (fun _ => False) w w3) := c3
  clear ho3 hg3 hm3 hown hsrc hB3 HCZ c3
  go_wp2_with (at_builtin; refine wpList_append_moved rfl _ _ 22 rfl w.heap.size 5 iu (.int .u8 0) 1 1 Tryd.underlying22 hiu hu0 hu1 hu2 rfl (by decide) _ n ((nums xs).map (Value.int .u8)) rfl b m d rfl ((nums ys).map (Value.int .u8)) ?g1 ?g2 ?g3 ?k1 ?k2 ?k3 ?_)
  case g1 => exact hown3
  case g2 => exact hsrc3
  case g3 => exact oneB _
  case k1 => have := HL.out; unfold maxLen; omega
  case k2 => have := HL.out; omega
  case k3 => exact hB4
  intro v4 w4 ho4 hg4 hm4
  have c4 : Chg (fun _ => False) w w4 := HC3.out.grown hg4 (fun j e => .inr ((hown3.lt j e).1))
  have hby := byO_app ho4
  obtain ⟨qa, qc, rfl⟩ := form1 ho4
  have HF : Hid (ByO w4 w.heap.size (.slice qa (n + m) qc) (xs ++ ys) ∧ Chg (fun _ => False) w w4) := ⟨hby, c4⟩
  clear ho4 hg4 hm4 hby c4 hown3 hsrc3 hB4 HC3
  go_wp2
  go_ret
  exact ⟨qa, qc, rfl, HF.out.1, HF.out.2⟩
end Go.Proofs.YtikokgngkagieaaDoor
