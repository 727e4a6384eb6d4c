/- What is asked of the program's chunks ('ChunkSpec'); what the document fixes; of no statement by itself. -/
import Derived.Test.YtannepoclpmedaaDoorCm
import Derived.Test.YtannepoclpmedaaDoorBy
import Derived.Test.YtannepoclpmedaaDoorLastQ
import Derived.Deep.DeepCutAuto
import Derived.Great.BuildSlice
import Derived.Laws.StructEq
namespace Go.Proofs.YtannepoclpmedaaDoor
open Go.RowKit
open St12
set_option linter.unusedVariables false
set_option linter.unusedSimpArgs false
def Chk.I (c : Chk) : Prop := I64 c.k ∧ I64 c.s ∧ I64 c.p ∧ I64 c.lc ∧ I64 c.lp ∧ I64 c.pb
def chv (c : Chk) : Value := .agg #[.int .i64 c.k, .int .i64 c.s, .int .i64 c.p, .int .i64 c.lc, .int .i64 c.lp, .int .i64 c.pb]
theorem Ck17.get_I (bs : List Nat) (h : ∀ x ∈ bs, x < 256) : (Ck17.getA bs).1.I := by
  have hat : ∀ i, Ck17.at_ bs i < 256 := fun i => by
    unfold Ck17.at_
    rw [List.getD_eq_getElem?_getD]
    cases e : bs[i]? with
    | none => simp
    | some x => exact h x (List.mem_of_getElem? e)
  have a0 := hat 0
  have a1 := hat 1
  have a2 := hat 2
  have a3 := hat 3
  have a4 := hat 4
  have hz : (Ck17.zeroC).I := by
    unfold Ck17.zeroC Chk.I I64
    decide
  unfold Ck17.getA
  split
  · exact hz
  · split
    · exact hz
    · split
      · exact hz
      · split
        · exact hz
        · split
          · unfold Chk.I I64; simp only; omega
          · split
            · unfold Chk.I I64; simp only; omega
            · split
              · exact hz
              · next hp =>
                have ha := Ck17.props_rng (b := Ck17.at_ bs 5) (by simpa using hp)
                obtain ⟨⟨r1, r2, r3⟩, r4, r5⟩ := ha
                unfold Chk.I I64
                simp only
                omega
structure ChunkSpec (Tab : World → Prop) : Prop where
  keep : ∀ {w w'}, Tab w → Chg (fun _ => False) w w' → Tab w'
  put : ∀ (c : Chk) (w : World), Tab w → c.I → Calls Tryd.prog 9 #[chv c] w fun e w' => ∃ ov, e = .returned (.tuple #[ov, .int .i64 (Ck17.putA c).2]) ∧ ByO w' w.heap.size ov (Ck17.putA c).1 ∧ Chg (fun _ => False) w w'
  get : ∀ (ad : Option Addr) (n cp : Nat) (bs : List Nat) (w : World), Tab w → Row8 w ad n cp (nums bs) → Rc.Dig bs → n ≤ cp → n ≤ 140737488355328 → Calls Tryd.prog 12 #[.slice ad n cp] w fun e w' => e = .returned (.tuple #[chv (Ck17.getA bs).1, .int .i64 ((Ck17.getA bs).2.1 : Int), .int .i64 (Ck17.getA bs).2.2]) ∧ Chg (fun _ => False) w w'
  bd : ∀ (b : Int) (w : World), Tab w → I64 b → Calls Tryd.prog 13 #[.int .i64 b] w fun e w' => e = .returned (.tuple #[.int .i64 (Ck17.byteD b).1, .int .i64 (Ck17.byteD b).2]) ∧ Chg (fun _ => False) w w'
  db : ∀ (n : Int) (w : World), Tab w → I64 n → Calls Tryd.prog 14 #[.int .i64 n] w fun e w' => e = .returned (.tuple #[.int .i64 (Ck17.dictB n).1, .int .i64 (Ck17.dictB n).2]) ∧ Chg (fun _ => False) w w'
theorem num_q (x : Int) (w : World) : Calls Tryd.prog 10 #[.int .i64 x] w fun e w' => e = .returned (.int .i64 x) ∧ w' = w := by
  go_enter Tryd.func10, Tryd.ntmps10
  go_wp2
  go_ret
  exact ⟨rfl, rfl⟩
theorem put_fix : Ck17.putA ⟨6, 3, 7, 3, 0, 2⟩ = ([224, 0, 2, 0, 6, 93], 0) := by decide +kernel
theorem get_fix : Ck17.getA [1, 0, 2, 9] = (⟨1, 3, 3, 0, 0, 0⟩, 3, 0) := by kernel_rfl
theorem bd_fix : Ck17.byteD 40 = (4294967295, 0) := by decide +kernel
theorem row8_lit4 (w : World) (a b c d : Int) (t : TypeId) : Row8 (w.alloc (.cells #[.int .u8 a, .int .u8 b, .int .u8 c, .int .u8 d] t)) (some ⟨w.heap.size, 0, none⟩) 4 4 [a, b, c, d] := by
  refine ⟨rfl, .inr ⟨_, rfl, fun j u hu => ?_⟩⟩
  rw [addk, Nat.zero_add]
  simp only [World.cell?, heap_alloc_last]
  simpa using hu
theorem cells6 {w : World} {a : Nat} {x0 x1 x2 x3 x4 x5 : Value} {t : TypeId} (h : w.heap[a]? = some (.cells #[x0, x1, x2, x3, x4, x5] t (0, 0))) : w.cell? ⟨a, 0, none⟩ = some x0 ∧ w.cell? ⟨a, 1, none⟩ = some x1 ∧ w.cell? ⟨a, 2, none⟩ = some x2 ∧ w.cell? ⟨a, 3, none⟩ = some x3 ∧ w.cell? ⟨a, 4, none⟩ = some x4 ∧ w.cell? ⟨a, 5, none⟩ = some x5 :=
  ⟨by simp [World.cell?, h], by simp [World.cell?, h], by simp [World.cell?, h], by simp [World.cell?, h], by simp [World.cell?, h], by simp [World.cell?, h]⟩
theorem I64.lit {x : Int} (h : decide (-9223372036854775808 ≤ x) && decide (x ≤ 9223372036854775807) = true) : I64 x := by
  simp at h
  exact h
variable {Tab : World → Prop}
set_option maxHeartbeats 4000000 in
set_option maxRecDepth 100000 in
theorem known17_any (S : ChunkSpec Tab) (w : World) (hT : Tab w) : Calls Tryd.prog 11 #[] w fun e w' => e = .returned (.bool true) ∧ Chg (fun _ => False) w w' := by
  have HT : Hid (Tab w) := hT
  have HP : Hid _ := S.put ⟨6, 3, 7, 3, 0, 2⟩ w hT ⟨I64.lit (by decide), I64.lit (by decide), I64.lit (by decide), I64.lit (by decide), I64.lit (by decide), I64.lit (by decide)⟩
  rw [put_fix] at HP
  unfold chv at HP
  simp only at HP
  have HN : Hid (∀ x ww, Calls Tryd.prog 10 #[.int .i64 x] ww fun e w' => e = .returned (.int .i64 x) ∧ w' = ww) := num_q
  clear hT
  go_enter Tryd.func11, Tryd.ntmps11
  go_wp2_with fail
  refine Calls.mono HP.out ?_
  rintro z w1 ⟨ov, rfl, ho, c1⟩
  obtain ⟨oa, oc, rfl⟩ := form1 ho
  have HO : Hid (ByO w1 w.heap.size (.slice oa 6 oc) [224, 0, 2, 0, 6, 93]) := ho
  have HC1 : Hid (Chg (fun _ => False) w w1) := c1
  have cA := chg_one w1 (.cells #[.int .u8 1, .int .u8 0, .int .u8 2, .int .u8 9] 5)
  have HG : Hid _ := S.get (some ⟨w1.heap.size, 0, none⟩) 4 4 [1, 0, 2, 9] (w1.alloc (.cells #[.int .u8 1, .int .u8 0, .int .u8 2, .int .u8 9] 5)) (S.keep (S.keep HT.out c1) cA) (row8_lit4 w1 1 0 2 9 5) (by intro x hx; simp at hx; omega) (Nat.le_refl _) (by decide)
  rw [get_fix] at HG
  unfold chv at HG
  simp only at HG
  have HCA : Hid (Chg (fun _ => False) w (w1.alloc (.cells #[.int .u8 1, .int .u8 0, .int .u8 2, .int .u8 9] 5))) := chg_then c1 cA
  have HOA : Hid (ByO (w1.alloc (.cells #[.int .u8 1, .int .u8 0, .int .u8 2, .int .u8 9] 5)) w.heap.size (.slice oa 6 oc) [224, 0, 2, 0, 6, 93]) := ownsRow_keep ho cA (fun _ _ f => f)
  simp only [List.length_cons, List.length_nil, Nat.reduceAdd]
  clear ho c1 cA HP HO HC1
  go_wp2_with fail
  refine Calls.mono HG.out ?_
  rintro z w2 ⟨rfl, c2⟩
  have cB := chg_one w2 (.cells #[.int .i64 1, .int .i64 3, .int .i64 3, .int .i64 0, .int .i64 0, .int .i64 0] 25)
  have hbB := heap_alloc_last w2 (.cells #[.int .i64 1, .int .i64 3, .int .i64 3, .int .i64 0, .int .i64 0, .int .i64 0] 25)
  have HCB : Hid (Chg (fun _ => False) w (w2.alloc (.cells #[.int .i64 1, .int .i64 3, .int .i64 3, .int .i64 0, .int .i64 0, .int .i64 0] 25))) := chg_then (chg_then HCA.out c2) cB
  have HOB : Hid (ByO (w2.alloc (.cells #[.int .i64 1, .int .i64 3, .int .i64 3, .int .i64 0, .int .i64 0, .int .i64 0] 25)) w.heap.size (.slice oa 6 oc) [224, 0, 2, 0, 6, 93]) := ownsRow_keep HOA.out (chg_then c2 cB) (fun _ _ f => f)
  have HBB : Hid ((w2.alloc (.cells #[.int .i64 1, .int .i64 3, .int .i64 3, .int .i64 0, .int .i64 0, .int .i64 0] 25)).heap[w2.heap.size]? = some (.cells #[.int .i64 1, .int .i64 3, .int .i64 3, .int .i64 0, .int .i64 0, .int .i64 0] 25 (0, 0))) := hbB
  have HD : Hid _ := S.bd 40 _ (S.keep HT.out HCB.out) (I64.lit (by decide))
  rw [bd_fix] at HD
  simp only at HD
  clear c2 cB hbB HG HCA HOA
  go_wp2_with fail
  refine Calls.mono HD.out ?_
  rintro z w3 ⟨rfl, c3⟩
  have HC3 : Hid (Chg (fun _ => False) w w3) := chg_then HCB.out c3
  have hcv : (convert 26 9 (.slice oa 6 oc)).run Tryd.prog w3 = .ok (.string (strOfNums [224, 0, 2, 0, 6, 93])) w3 := conv_own (ownsRow_keep HOB.out c3 (fun _ _ f => f))
  obtain ⟨k0, k1, k2, k3, k4, k5⟩ := cells6 (blk_keep HBB.out c3 (fun f => f))
  have hst : strOfNums [224, 0, 2, 0, 6, 93] = { data := #[224, 0, 2, 0, 6, 93] } := by kernel_rfl
  rw [hst] at hcv
  clear c3 HD HCB HOB HBB hst
  go_wp2_with fail
  refine Calls.mono (HN.out _ _) ?_
  rintro z w4 ⟨rfl, rfl⟩
  go_wp2_with fail
  refine Calls.mono (HN.out _ _) ?_
  rintro z w4 ⟨rfl, rfl⟩
  go_wp2_with fail
  refine Calls.mono (HN.out _ _) ?_
  rintro z w4 ⟨rfl, rfl⟩
  go_wp2
  go_ret
  exact ⟨rfl, HC3.out⟩
end Go.Proofs.YtannepoclpmedaaDoor
