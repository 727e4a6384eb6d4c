/- What is asked of the program's index ('IndexSpec'); what the law holds fixed; the walk of IndexSole; of no statement by themselves. -/
import Derived.Test.YtehfcfpbjenmjaaDoorIxd
import Derived.Test.YtehfcfpbjenmjaaDoorIxe
import Derived.Lib.SlBytesConst
namespace Go.Proofs.YtehfcfpbjenmjaaDoor
open Go.RowKit
set_option linter.unusedVariables false
set_option linter.unusedSimpArgs false
structure IndexSpec (Tab : World → Prop) : Prop where
  keep : ∀ {w w'}, Tab w → Chg (fun _ => False) w w' → Tab w'
  put : ∀ (ad : Option Addr) (n c : Nat) (l : List Rec) (w : World), Tab w → RcF w ad n c l → n ≤ 8796093022208 → Calls Tryd.prog 12 #[.slice ad n c] w fun e w' => ∃ ov, e = .returned (.tuple #[ov, .int .i64 (Ix23.putI l).2]) ∧ ByO w' w.heap.size ov (Ix23.putI l).1 ∧ Chg (fun _ => False) w w'
  get : ∀ (ad : Option Addr) (n c : Nat) (bs : List Nat) (w : World), Tab w → Row8 w ad n c (nums bs) → Rc.Dig bs → n ≤ c → n ≤ 140737488355328 → ((getN (bs.drop 1)).1 ≤ 8796093022208 ∨ (bs.filter (fun x => decide (x < 128))).length ≤ 17592186044416) → Calls Tryd.prog 9 #[.slice ad n c] w fun e w' => ∃ lv, e = .returned (.tuple #[lv, .int .i64 ((Ix23.getI bs).2.1 : Int), .int .i64 (Ix23.getI bs).2.2]) ∧ RcO w' w.heap.size lv (Ix23.getI bs).1 ∧ Chg (fun _ => False) w w'
  size : ∀ (ad : Option Addr) (n c : Nat) (l : List Rec) (w : World), Tab w → RcF w ad n c l → n ≤ 8796093022208 → Calls Tryd.prog 19 #[.slice ad n c] w fun e w' => e = .returned (.tuple #[.int .i64 ((Ix23.putI l).1.length : Int), .int .i64 (Ix23.putI l).2]) ∧ Chg (fun _ => False) w w'
  places : ∀ (frm : Int) (ad : Option Addr) (n c : Nat) (l : List Rec) (w : World), Tab w → RcF w ad n c l → n ≤ 8796093022208 → I64 frm → Calls Tryd.prog 14 #[.int .i64 frm, .slice ad n c] w fun e w' => ∃ sv, e = .returned (.tuple #[sv, .int .i64 (Ix23.placesI frm l).2.1, .int .i64 (Ix23.placesI frm l).2.2.1, .int .i64 (Ix23.placesI frm l).2.2.2]) ∧ PlO w' w.heap.size sv (Ix23.placesI frm l).1 ∧ Chg (fun _ => False) w w'
  find : ∀ (off frm : Int) (ad : Option Addr) (n c : Nat) (l : List Rec) (w : World), Tab w → Ix23.rightB 0 0 l = true → 0 ≤ frm → frm + Ix23.bsum l ≤ 9223372036854775807 → PlF w ad n c (Ix23.placeL frm 0 l) → n ≤ 8796093022208 → I64 off → Calls Tryd.prog 15 #[.int .i64 off, .slice ad n c] w fun e w' => e = .returned (.int .i64 (Ix23.findI 0 off (Ix23.placeL frm 0 l))) ∧ Chg (fun _ => False) w w'
theorem fix_put0 : Ix23.putI [] = ([0, 0, 0, 0, 28, 223, 68, 33], 0) := by decide +kernel
theorem fix_right0 : Ix23.rightB 0 0 [] = true := rfl
theorem fix_get0 : Ix23.getI [0, 0, 0, 0, 28, 223, 68, 33, 255] = ([], 8, 0) := by
  have h := Ix23.get_put fix_right0 [255]
  rw [fix_put0] at h
  exact h
theorem fix_size : (Ix23.putI [⟨130, 300⟩]).1.length = 12 ∧ (Ix23.putI [⟨130, 300⟩]).2 = 0 := by decide +kernel
theorem rcF_nil (w : World) : RcF w none 0 0 [] := ⟨⟨rfl, .inl ⟨rfl, rfl, rfl⟩⟩, rfl, Nat.le_refl _, fun k q h => by simp at h⟩
theorem rcF_one (w : World) (q : Rec) (t : TypeId) (hq : q.I) : RcF (w.alloc (.cells #[.int .i64 q.u, .int .i64 q.s] t)) (some ⟨w.heap.size, 0, none⟩) 1 1 [q] := ⟨from_rc w q t, rfl, Nat.le_refl _, fun k x h => by
  cases k with
  | zero => simp at h; subst h; exact hq
  | succ k => simp at h⟩
theorem row8_litF (w : World) (l : List Nat) (n : Nat) (t : TypeId) (fr : Nat × Nat) (hn : l.length = n) (vs : Array Value) (hv : vs.toList = (nums l).map (Value.int .u8)) : Row8 (w.alloc (.cells vs t fr)) (some ⟨w.heap.size, 0, none⟩) n n (nums l) := by
  refine ⟨by rw [nums_len, hn], .inr ⟨_, rfl, fun j u hu => ?_⟩⟩
  rw [addk, Nat.zero_add]
  have hb : (w.alloc (.cells vs t fr)).heap[w.heap.size]? = some (.cells vs t fr) := heap_alloc_last w _
  simp only [World.cell?, hb]
  rw [← hv] at hu
  simpa using hu
theorem conv_const (w : World) (xs : List Int) (n c g : Nat) (hg : g = w.heap.size) : (convert 22 22 (.slice (some ⟨g, 0, none⟩) n c)).run Tryd.prog (w.alloc (.cells (xs.map (Value.int .u8)).toArray 5)) = .ok (.slice (some ⟨g, 0, none⟩) n c) (w.alloc (.cells (xs.map (Value.int .u8)).toArray 5 (xs.length, xs.length + 1))) := by
  subst hg
  have := Lib.run_convert_bytes_const (P := Tryd.prog) w 22 5 (xs.map (Value.int .u8)).toArray n c Tryd.underlying22 Tryd.underlying5
  simpa using this
variable {Tab : World → Prop}
set_option maxHeartbeats 8000000 in
set_option maxRecDepth 100000 in
theorem known23_any (S : IndexSpec Tab) (w : World) (hT : Tab w) : Calls Tryd.prog 11 #[] w fun e w' => e = .returned (.bool true) ∧ Chg (fun _ => False) w w' := by
  have HT : Hid (Tab w) := hT
  have HP : Hid _ := S.put none 0 0 [] w hT (rcF_nil w) (by decide)
  rw [fix_put0] at HP
  clear hT
  go_enter Tryd.func11, Tryd.ntmps11
  go_wp2_with fail
  refine Calls.mono HP.out ?_
  rintro z w1 ⟨ov, rfl, ho, c1⟩
  obtain ⟨oa, oc, rfl⟩ := byO_form ho
  have HO1 : Hid (ByO w1 w.heap.size (.slice oa 8 oc) [0, 0, 0, 0, 28, 223, 68, 33]) := ho
  have HC1 : Hid (Chg (fun _ => False) w w1) := c1
  have v0 := conv_const w1 [0, 0, 0, 0, 28, 223, 68, 33, 255] 9 9 w1.heap.size rfl
  simp only [List.map_cons, List.map_nil, List.length_cons, List.length_nil, Nat.reduceAdd] at v0
  have cL := chg_one w1 (.cells #[.int .u8 0, .int .u8 0, .int .u8 0, .int .u8 0, .int .u8 28, .int .u8 223, .int .u8 68, .int .u8 33, .int .u8 255] 5 (9, 10))
  have hrl := row8_litF w1 [0, 0, 0, 0, 28, 223, 68, 33, 255] 9 5 (9, 10) rfl #[.int .u8 0, .int .u8 0, .int .u8 0, .int .u8 0, .int .u8 28, .int .u8 223, .int .u8 68, .int .u8 33, .int .u8 255] rfl
  have HCL : Hid (Chg (fun _ => False) w (w1.alloc (.cells #[.int .u8 0, .int .u8 0, .int .u8 0, .int .u8 0, .int .u8 28, .int .u8 223, .int .u8 68, .int .u8 33, .int .u8 255] 5 (9, 10)))) := chg_then c1 cL
  have HG : Hid _ := S.get _ 9 9 [0, 0, 0, 0, 28, 223, 68, 33, 255] _ (S.keep HT.out HCL.out) hrl (by intro x hx; simp at hx; omega) (Nat.le_refl _) (by decide) (.inr (by decide))
  rw [fix_get0] at HG
  have HOL : Hid (ByO (w1.alloc (.cells #[.int .u8 0, .int .u8 0, .int .u8 0, .int .u8 0, .int .u8 28, .int .u8 223, .int .u8 68, .int .u8 33, .int .u8 255] 5 (9, 10))) w.heap.size (.slice oa 8 oc) [0, 0, 0, 0, 28, 223, 68, 33]) := HO1.out.new cL
  clear ho c1 cL hrl HP HO1 HC1
  go_wp2_with fail
  refine Calls.mono HG.out ?_
  rintro z w2 ⟨lv, rfl, hl, c2⟩
  obtain ⟨la, lc, rfl, _⟩ := formI hl
  have HC2 : Hid (Chg (fun _ => False) w w2) := chg_then HCL.out c2
  have HO2 : Hid (ByO w2 w.heap.size (.slice oa 8 oc) [0, 0, 0, 0, 28, 223, 68, 33]) := HOL.out.new c2
  have cR := chg_one w2 (.cells #[.int .i64 130, .int .i64 300] 43)
  have hrr := rcF_one w2 ⟨130, 300⟩ 43 (by unfold Rec.I I64; decide)
  have HCR : Hid (Chg (fun _ => False) w (w2.alloc (.cells #[.int .i64 130, .int .i64 300] 43))) := chg_then HC2.out cR
  have HS : Hid _ := S.size _ 1 1 [⟨130, 300⟩] _ (S.keep HT.out HCR.out) hrr (by decide)
  rw [fix_size.1, fix_size.2] at HS
  have HOR : Hid (ByO (w2.alloc (.cells #[.int .i64 130, .int .i64 300] 43)) w.heap.size (.slice oa 8 oc) [0, 0, 0, 0, 28, 223, 68, 33]) := HO2.out.new cR
  clear hl c2 cR hrr HG HOL HO2 HC2 HCL
  go_wp2_with fail
  refine Calls.mono HS.out ?_
  rintro z w3 ⟨rfl, c3⟩
  have HC3 : Hid (Chg (fun _ => False) w w3) := chg_then HCR.out c3
  have hcv0 : (convert 22 9 (.slice oa 8 oc)).run Tryd.prog w3 = .ok (.string (strOfNums (nums [0, 0, 0, 0, 28, 223, 68, 33]))) w3 := Bk.conv8_here (byO_row (HOR.out.new c3)).1
  have hss : ((strOfNums (nums [0, 0, 0, 0, 28, 223, 68, 33])).toList == [0, 0, 0, 0, 28, 223, 68, 33]) = true := by decide +kernel
  generalize strOfNums (nums [0, 0, 0, 0, 28, 223, 68, 33]) = ST at *
  clear c3 HS HOR HCR v0
  go_wp2
  go_ret
  exact ⟨rfl, HC3.out⟩
end Go.Proofs.YtehfcfpbjenmjaaDoor
