/- What the document fixes of chains: the walk of known; of no statement by itself. -/
import Derived.Test.YtmkiohnabbfkcaaDoorCrs
namespace Go.Proofs.YtmkiohnabbfkcaaDoor
open Go.RowKit
open St12
set_option linter.unusedVariables false
set_option linter.unusedSimpArgs false
variable {Tab : World → Prop}
theorem row8_litN (w : World) (l : List Nat) (n : Nat) (t : TypeId) (hn : l.length = n) (vs : Array Value) (hv : vs.toList = (nums l).map (Value.int .u8)) : Row8 (w.alloc (.cells vs t)) (some ⟨w.heap.size, 0, none⟩) n n (nums l) := by
  refine ⟨by rw [nums_len, hn], .inr ⟨_, rfl, fun j u hu => ?_⟩⟩
  rw [addk, Nat.zero_add]
  simp only [World.cell?, heap_alloc_last]
  rw [← hv] at hu
  simpa using hu
theorem cells4f {w : World} {a : Nat} {x0 x1 x2 x3 : Value} {t : TypeId} (h : w.heap[a]? = some (.cells #[x0, x1, x2, x3] t (0, 0))) : w.cell? ⟨a, 0, none⟩ = some x0 ∧ w.cell? ⟨a, 1, none⟩ = some x1 ∧ w.cell? ⟨a, 2, none⟩ = some x2 ∧ w.cell? ⟨a, 3, none⟩ = some x3 :=
  ⟨by simp [World.cell?, h], by simp [World.cell?, h], by simp [World.cell?, h], by simp [World.cell?, h]⟩
theorem I64.lit2 {x : Int} (h : decide (-9223372036854775808 ≤ x) && decide (x ≤ 9223372036854775807) = true) : I64 x := by
  simp at h
  exact h
theorem ok_mk {w : World} {id : Nat} {a : Option Addr} {n c : Nat} {bs : List Nat} (h1 : id < 18446744073709551616) (h2 : Row8 w a n c (nums bs)) (h3 : Rc.Dig bs) (h4 : n ≤ c) (h5 : n ≤ 140737488351232) : (⟨id, a, n, c, bs⟩ : FlV).ok w := ⟨h1, h2, h3, h4, h5⟩
set_option maxHeartbeats 4000000 in
set_option maxRecDepth 100000 in
theorem known20_any (S : ChainSpec Tab) (w : World) (hT : Tab w) : Calls Tryd.prog 19 #[] w fun e w' => e = .returned (.bool true) ∧ Chg (fun _ => False) w w' := by
  have HT : Hid (Tab w) := hT
  have c0 := chg_one w (.cells #[.int .u8 7, .int .u8 8] 5)
  have r0 := row8_litN w [7, 8] 2 5 rfl #[.int .u8 7, .int .u8 8] rfl
  have HP : Hid _ := S.put 300 (some ⟨w.heap.size, 0, none⟩) 2 2 [7, 8] _ (S.keep hT c0) (ok_mk (by decide) r0 (by intro x hx; simp at hx; omega) (Nat.le_refl _) (by decide))
  rw [fix_put] at HP
  simp only at HP
  have HC0 : Hid (Chg (fun _ => False) w (w.alloc (.cells #[.int .u8 7, .int .u8 8] 5))) := c0
  have HN : Hid (∀ x ww, Calls Tryd.prog 8 #[.int .i64 x] ww fun e w' => e = .returned (.int .i64 x) ∧ w' = ww) := num20_q
  clear hT c0 r0
  go_enter Tryd.func19, Tryd.ntmps19
  go_wp2_with fail
  refine Calls.mono HP.out ?_
  rintro z w1 ⟨ov, rfl, ho, c1⟩
  obtain ⟨oa, oc, rfl⟩ := form1 ho
  have HO : Hid (ByO w1 (w.alloc (.cells #[.int .u8 7, .int .u8 8] 5)).heap.size (.slice oa 5 oc) [172, 2, 2, 7, 8]) := ho
  have HC1 : Hid (Chg (fun _ => False) w w1) := chg_then HC0.out c1
  clear ho c1 HP HC0
  simp only [List.length_cons, List.length_nil, Nat.reduceAdd]
  have HW : Hid (Chg (fun _ => False) w1 (((w1.alloc (.cells #[.int .u8 255] 5)).alloc (.cells #[.int .u8 40] 5)).alloc (.cells #[.int .u64 3, .slice (some ⟨w1.heap.size, 0, none⟩) 1 1, .int .u64 33, .slice (some ⟨w1.heap.size + 1, 0, none⟩) 1 1] 36))) := (((Chg.refl _ w1).alloc _).alloc _).alloc _
  have HF : Hid (FlL (((w1.alloc (.cells #[.int .u8 255] 5)).alloc (.cells #[.int .u8 40] 5)).alloc (.cells #[.int .u64 3, .slice (some ⟨w1.heap.size, 0, none⟩) 1 1, .int .u64 33, .slice (some ⟨w1.heap.size + 1, 0, none⟩) 1 1] 36)) (some ⟨w1.heap.size + 1 + 1, 0, none⟩) [⟨3, some ⟨w1.heap.size, 0, none⟩, 1, 1, [255]⟩, ⟨33, some ⟨w1.heap.size + 1, 0, none⟩, 1, 1, [40]⟩]) := by
    have ra := row8_litN w1 [255] 1 5 rfl #[.int .u8 255] rfl
    have rb := row8_litN (w1.alloc (.cells #[.int .u8 255] 5)) [40] 1 5 rfl #[.int .u8 40] rfl
    have ra2 := Bk.row8_chg (Bk.row8_chg ra (chg_one _ (.cells #[.int .u8 40] 5))) (chg_one _ (.cells #[.int .u64 3, .slice (some ⟨w1.heap.size, 0, none⟩) 1 1, .int .u64 33, .slice (some ⟨w1.heap.size + 1, 0, none⟩) 1 1] 36))
    have rb2 := Bk.row8_chg rb (chg_one _ (.cells #[.int .u64 3, .slice (some ⟨w1.heap.size, 0, none⟩) 1 1, .int .u64 33, .slice (some ⟨w1.heap.size + 1, 0, none⟩) 1 1] 36))
    rw [World.size_alloc] at rb2
    have hb := heap_alloc_last ((w1.alloc (.cells #[.int .u8 255] 5)).alloc (.cells #[.int .u8 40] 5)) (.cells #[.int .u64 3, .slice (some ⟨w1.heap.size, 0, none⟩) 1 1, .int .u64 33, .slice (some ⟨w1.heap.size + 1, 0, none⟩) 1 1] 36)
    rw [World.size_alloc, World.size_alloc] at hb
    obtain ⟨k0, k1, k2, k3⟩ := cells4f hb
    intro k q hk
    match k, hk with
    | 0, hk =>
      simp at hk
      subst hk
      exact ⟨ok_mk (by decide) ra2 (by intro x hx; simp at hx; omega) (Nat.le_refl _) (by decide), _, 0, rfl, k0, k1⟩
    | 1, hk =>
      simp at hk
      subst hk
      exact ⟨ok_mk (by decide) rb2 (by intro x hx; simp at hx; omega) (Nat.le_refl _) (by decide), _, 0, rfl, k2, k3⟩
    | k + 2, hk => simp at hk
  have HR : Hid _ := S.read (some ⟨w1.heap.size + 1 + 1, 0, none⟩) 2 2 _ _ (S.keep HT.out (chg_then HC1.out HW.out)) HF.out rfl (Nat.le_refl _) (by decide)
  have hfr : Cn20.readF (List.map FlV.f [⟨3, some ⟨w1.heap.size, 0, none⟩, 1, 1, [255]⟩, ⟨33, some ⟨w1.heap.size + 1, 0, none⟩, 1, 1, [40]⟩]) = (256, 4294967295, 0) := fix_read
  rw [hfr] at HR
  simp only at HR
  clear hfr HF
  go_wp2_with fail
  refine Calls.mono HR.out ?_
  rintro z w2 ⟨rfl, c2⟩
  have HC2 : Hid (Chg (fun _ => False) w1 w2) := chg_then HW.out c2
  have hcv : (convert 23 9 (.slice oa 5 oc)).run Tryd.prog w2 = .ok (.string (strOfNums [172, 2, 2, 7, 8])) w2 := conv_own (ownsRow_keep HO.out HC2.out (fun _ _ f => f))
  have hst : strOfNums [172, 2, 2, 7, 8] = { data := #[172, 2, 2, 7, 8] } := by kernel_rfl
  rw [hst] at hcv
  have HL : Hid _ := S.legal ⟨0, 0, 0, 0, 0, 0, 0, 0⟩ w2 (S.keep HT.out (chg_then HC1.out HC2.out)) ⟨I64.lit2 (by decide), I64.lit2 (by decide), I64.lit2 (by decide), I64.lit2 (by decide), I64.lit2 (by decide), I64.lit2 (by decide), I64.lit2 (by decide), I64.lit2 (by decide)⟩
  rw [fix_legal] at HL
  unfold cfv at HL
  simp only at HL
  clear c2 HR hst HW
  go_wp2_with fail
  refine Calls.mono (HN.out _ _) ?_
  rintro z w4 ⟨rfl, rfl⟩
  go_wp2_with fail
  refine Calls.mono (HN.out _ _) ?_
  rintro z w4 ⟨rfl, rfl⟩
  go_wp2_with fail
  refine Calls.mono HL.out ?_
  rintro z w5 ⟨rfl, c5⟩
  have HC5 : Hid (Chg (fun _ => False) w w5) := chg_then (chg_then HC1.out HC2.out) c5
  go_wp2_with fail
  refine Calls.mono (HN.out _ _) ?_
  rintro z w6 ⟨rfl, rfl⟩
  go_wp2
  go_ret
  exact ⟨rfl, HC5.out⟩
end Go.Proofs.YtmkiohnabbfkcaaDoor
