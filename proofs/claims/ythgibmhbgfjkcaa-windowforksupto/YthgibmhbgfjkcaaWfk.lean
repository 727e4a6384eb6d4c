/- The walk of WindowForks above what is asked of the program's windows; of no statement by itself. -/
import Derived.Test.YthgibmhbgfjkcaaWf
import Derived.Deep.DeepCutAuto
namespace Go.Proofs.Ythgibmhbgfjkcaa
open Go.RowKit
set_option linter.unusedVariables false

variable {Win : World → Nat → Nat → Value → Nat → List Nat → Prop}
set_option maxHeartbeats 4000000 in
set_option maxRecDepth 100000 in
theorem wforks_any (S : WinSpec Win) (sz : Int) (a1 : Option Addr) (L1 c1 : Nat) (b1 : List Nat) (a2 : Option Addr) (L2 c2 : Nat) (b2 : List Nat) (a3 : Option Addr) (L3 c3 : Nat) (b3 : List Nat) (w0 : World) (hr1 : Row8 w0 a1 L1 c1 (nums b1)) (hd1 : Rc.Dig b1) (hr2 : Row8 w0 a2 L2 c2 (nums b2)) (hd2 : Rc.Dig b2) (hr3 : Row8 w0 a3 L3 c3 (nums b3)) (hd3 : Rc.Dig b3) (hL : L1 + L2 ≤ 140737488355328) (hL3 : L3 ≤ 140737488355328) : Calls Try.prog 6 #[.int .i64 sz, .slice a1 L1 c1, .slice a2 L2 c2, .slice a3 L3 c3] w0 fun e w' => e = .returned (.bool true) ∧ Chg (fun _ => False) w0 w' := by
  obtain ⟨iu, hiu, hu0, hu1, hu2⟩ := info_parts infoU8
  have hne := pW_ne
  have HR1 : Hid (Row8 w0 a1 L1 c1 (nums b1)) := hr1
  have HR2 : Hid (Row8 w0 a2 L2 c2 (nums b2)) := hr2
  have HR3 : Hid (Row8 w0 a3 L3 c3 (nums b3)) := hr3
  have HB1 : Hid (b1.length = L1) := by have := hr1.1; rw [nums_len] at this; exact this
  have HB2 : Hid (b2.length = L2) := by have := hr2.1; rw [nums_len] at this; exact this
  have HB3 : Hid (b3.length = L3) := by have := hr3.1; rw [nums_len] at this; exact this
  obtain ⟨n, hsz⟩ : ∃ n, szN sz = n := ⟨_, rfl⟩
  have HN : Hid (1 ≤ n ∧ n ≤ 2000) := by show _ ∧ _; rw [← hsz]; exact szN_in sz
  have HSZ : Hid (szN sz = n) := hsz
  have HMD1 : Hid _ := made_any S sz n hsz a1 L1 c1 b1 w0 hr1 hd1 (by omega)
  clear hr1 hr2 hr3 hsz
  go_enter Try.func6, Try.ntmps6
  go_wp2_with fail
  refine Calls.mono HMD1.out ?_
  rintro z w1 ⟨a, v, rfl, hw1, k1⟩
  have HF1 : Hid (Fam Win w0 w1 [⟨a, v, n, b1⟩]) := (Fam.none w0).push S ⟨a, v, n, b1⟩ hw1 k1
  have HMD2 : Hid _ := made_any S sz n HSZ.out none 0 0 [] w1 ⟨rfl, .inl ⟨rfl, rfl, rfl⟩⟩ (fun x hx => (List.not_mem_nil hx).elim) (by omega)
  clear hw1 k1 HMD1
  go_wp2_with fail
  refine Calls.mono HMD2.out ?_
  rintro z w2 ⟨b, u, rfl, hw2, k2⟩
  have HF2 : Hid (Fam Win w0 w2 [⟨a, v, n, b1⟩, ⟨b, u, n, []⟩]) := HF1.out.push S ⟨b, u, n, []⟩ hw2 k2
  clear hw2 k2 HMD2 HF1
  go_wp2_with fail
  refine (S.fork w0.heap.size a v n b1 _ (HF2.out.win 0 (by simp))).mono ?_
  rintro z w3 ⟨fa, fv, rfl, hw3, k3⟩
  have HF3 : Hid (Fam Win w0 w3 [⟨a, v, n, b1⟩, ⟨b, u, n, []⟩, ⟨fa, fv, n, b1⟩]) := HF2.out.push S ⟨fa, fv, n, b1⟩ hw3 k3
  clear hw3 k3 HF2
  go_wp2_with fail
  refine (posS S (show Win w3 w0.heap.size fa fv n (b1) from HF3.out.win 2 (by simp))).mono ?_
  rintro z w11 ⟨rfl, c11⟩
  have HF12 : Hid (Fam Win w0 w11 [⟨a, v, n, b1⟩, ⟨b, u, n, []⟩, ⟨fa, fv, n, b1⟩]) := HF3.out.new S c11
  clear c11 HF3
  rw [HB1.out]
  go_wp2_with fail
  refine (sizeS S (show Win w11 w0.heap.size fa fv n (b1) from HF12.out.win 2 (by simp))).mono ?_
  rintro z w13 ⟨rfl, c13⟩
  have HF14 : Hid (Fam Win w0 w13 [⟨a, v, n, b1⟩, ⟨b, u, n, []⟩, ⟨fa, fv, n, b1⟩]) := HF12.out.new S c13
  clear c13 HF12
  go_wp2_with fail
  refine (sizeS S (show Win w13 w0.heap.size a v n (b1) from HF14.out.win 0 (by simp))).mono ?_
  rintro z w15 ⟨rfl, c15⟩
  have HF16 : Hid (Fam Win w0 w15 [⟨a, v, n, b1⟩, ⟨b, u, n, []⟩, ⟨fa, fv, n, b1⟩]) := HF14.out.new S c15
  clear c15 HF14
  have cE := chg_one w15 (.cells #[] 5)
  have hoE := own_empty w15 5
  have hsrc := (Bk.row8_chg (Bk.row8_chg HR2.out HF16.out.chg) cE).src
  have hone := one8 b2
  have hszE : w15.heap.size ≤ (w15.alloc (.cells #[] 5)).heap.size := cE.size
  have HCE : Hid (Chg (fun _ => False) w15 (w15.alloc (.cells #[] 5))) := cE
  clear cE
  go_wp2_with (at_builtin; refine wpList_append_moved rfl _ _ 22 rfl w15.heap.size 5 iu (.int .u8 0) 1 1 Try.underlying22 hiu hu0 hu1 hu2 rfl (by decide) _ 0 [] rfl a2 L2 c2 rfl ((nums b2).map (Value.int .u8)) hoE hsrc hone (by unfold maxLen; omega) (by omega) hszE ?_)
  intro vq wq hoq hgq _
  have cq : Chg (fun _ => False) w15 wq := HCE.out.grown hgq (fun k e => .inr (by cases e; exact Nat.le_refl _))
  have hoq' : wq.ownsRow w15.heap.size 5 1 vq L2 (ins .u8 (nums b2)) := by simpa [ins_map] using hoq
  obtain ⟨aq, dq, hvq⟩ := form1 hoq'
  subst hvq
  have HWq : Hid (Win wq w0.heap.size a v n b1) := S.new (show Win w15 w0.heap.size a v n (b1) from HF16.out.win 0 (by simp)) cq
  have HBq : Hid (Row8 wq aq L2 dq (nums b2)) := row8_own hoq'
  have HMq : Hid (L2 ≤ dq) := own_cap hoq'
  have HAq : Hid (∀ x, aq = some x → ¬ Foot a v x.block) := fun x e f => by
    subst e
    have h1 := (S.lt (show Win w15 w0.heap.size a v n (b1) from HF16.out.win 0 (by simp)) _ f).2
    have h2 := (hoq'.lt x.block rfl).1
    omega
  have HCq : Hid (Chg (fun _ => False) w15 wq) := cq
  have HZq : Hid (w0.heap.size ≤ wq.heap.size) := Nat.le_trans HF16.out.chg.size cq.size
  clear hoq hgq cq hoq' hoE hsrc hone hszE HCE
  go_wp2_with fail
  refine (S.put w0.heap.size a v n b1 aq L2 dq b2 wq HWq.out HZq.out HBq.out hd2 HAq.out HMq.out (by omega) (by rw [HB1.out]; omega)).mono ?_
  rintro z w17 ⟨rfl, v17, hwq, cq, mq⟩
  have HP17 : Hid (Win w17 w0.heap.size a v17 n (b1 ++ b2) ∧ Chg (Foot a v) w15 w17 ∧ Moved w15 v v17) := ⟨hwq, (HCq.out.mono (fun _ f => f.elim)).trans cq (fun _ f => .inl f), moved_from HCq.out.size mq⟩
  clear hwq cq mq HWq HBq HAq HCq HZq HMq
  have HF18 : Hid (Fam Win w0 w17 [⟨a, v17, n, b1 ++ b2⟩, ⟨b, u, n, []⟩, ⟨fa, fv, n, b1⟩]) := HF16.out.turn S 0 (by simp) v17 (b1 ++ b2) HP17.out.1 HP17.out.2.1 HP17.out.2.2
  clear HP17 HF16
  go_wp2_with fail
  refine (S.clear w0.heap.size fa fv n b1 _ (show Win w17 w0.heap.size fa fv n (b1) from HF18.out.win 2 (by simp)) HF18.out.chg.size).mono ?_
  rintro z w19 ⟨rfl, v19, hw19, c19, m19⟩
  have HF20 : Hid (Fam Win w0 w19 [⟨a, v17, n, b1 ++ b2⟩, ⟨b, u, n, []⟩, ⟨fa, v19, n, []⟩]) := HF18.out.turn S 2 (by simp) v19 ([]) hw19 c19 m19
  clear hw19 c19 m19 HF18
  go_wp2_with fail
  refine (S.last w0.heap.size fa v19 n [] 1 _ (show Win w19 w0.heap.size fa v19 n ([]) from HF20.out.win 2 (by simp)) (by decide) ⟨by omega, by omega⟩).mono ?_
  rintro z w21 ⟨⟨_, rfl⟩ | h9, c21⟩
  rotate_left
  · exact absurd h9.1.2 (by unfold fullN; simp)
  have HF22 : Hid (Fam Win w0 w21 [⟨a, v17, n, b1 ++ b2⟩, ⟨b, u, n, []⟩, ⟨fa, v19, n, []⟩]) := HF20.out.new S c21
  clear c21 HF20
  go_wp2_with fail
  refine (posS S (show Win w21 w0.heap.size fa v19 n ([]) from HF22.out.win 2 (by simp))).mono ?_
  rintro z w23 ⟨rfl, c23⟩
  have HF24 : Hid (Fam Win w0 w23 [⟨a, v17, n, b1 ++ b2⟩, ⟨b, u, n, []⟩, ⟨fa, v19, n, []⟩]) := HF22.out.new S c23
  clear c23 HF22
  rw [show (([] : List Nat).length) = 0 from rfl]
  go_wp2_with fail
  refine (fullS S (show Win w23 w0.heap.size fa v19 n ([]) from HF24.out.win 2 (by simp))).mono ?_
  rintro z w25 ⟨rfl, c25⟩
  have HF26 : Hid (Fam Win w0 w25 [⟨a, v17, n, b1 ++ b2⟩, ⟨b, u, n, []⟩, ⟨fa, v19, n, []⟩]) := HF24.out.new S c25
  clear c25 HF24
  rw [show fullN n [] = 0 by unfold fullN; simp]
  go_wp2_with fail
  refine (sizeS S (show Win w25 w0.heap.size fa v19 n ([]) from HF26.out.win 2 (by simp))).mono ?_
  rintro z w27 ⟨rfl, c27⟩
  have HF28 : Hid (Fam Win w0 w27 [⟨a, v17, n, b1 ++ b2⟩, ⟨b, u, n, []⟩, ⟨fa, v19, n, []⟩]) := HF26.out.new S c27
  clear c27 HF26
  go_wp2_with fail
  refine (sizeS S (show Win w27 w0.heap.size a v17 n (b1 ++ b2) from HF28.out.win 0 (by simp))).mono ?_
  rintro z w29 ⟨rfl, c29⟩
  have HF30 : Hid (Fam Win w0 w29 [⟨a, v17, n, b1 ++ b2⟩, ⟨b, u, n, []⟩, ⟨fa, v19, n, []⟩]) := HF28.out.new S c29
  clear c29 HF28
  go_wp2_with fail
  refine (posS S (show Win w29 w0.heap.size a v17 n (b1 ++ b2) from HF30.out.win 0 (by simp))).mono ?_
  rintro z w31 ⟨rfl, c31⟩
  have HF32 : Hid (Fam Win w0 w31 [⟨a, v17, n, b1 ++ b2⟩, ⟨b, u, n, []⟩, ⟨fa, v19, n, []⟩]) := HF30.out.new S c31
  clear c31 HF30
  rw [List.length_append, HB1.out, HB2.out]
  have cE := chg_one w31 (.cells #[] 5)
  have hoE := own_empty w31 5
  have hsrc := (Bk.row8_chg (Bk.row8_chg HR3.out HF32.out.chg) cE).src
  have hone := one8 b3
  have hszE : w31.heap.size ≤ (w31.alloc (.cells #[] 5)).heap.size := cE.size
  have HCE : Hid (Chg (fun _ => False) w31 (w31.alloc (.cells #[] 5))) := cE
  clear cE
  go_wp2_with (at_builtin; refine wpList_append_moved rfl _ _ 22 rfl w31.heap.size 5 iu (.int .u8 0) 1 1 Try.underlying22 hiu hu0 hu1 hu2 rfl (by decide) _ 0 [] rfl a3 L3 c3 rfl ((nums b3).map (Value.int .u8)) hoE hsrc hone (by unfold maxLen; omega) (by omega) hszE ?_)
  intro vq wq hoq hgq _
  have cq : Chg (fun _ => False) w31 wq := HCE.out.grown hgq (fun k e => .inr (by cases e; exact Nat.le_refl _))
  have hoq' : wq.ownsRow w31.heap.size 5 1 vq L3 (ins .u8 (nums b3)) := by simpa [ins_map] using hoq
  obtain ⟨aq, dq, hvq⟩ := form1 hoq'
  subst hvq
  have HWq : Hid (Win wq w0.heap.size fa v19 n []) := S.new (show Win w31 w0.heap.size fa v19 n ([]) from HF32.out.win 2 (by simp)) cq
  have HBq : Hid (Row8 wq aq L3 dq (nums b3)) := row8_own hoq'
  have HMq : Hid (L3 ≤ dq) := own_cap hoq'
  have HAq : Hid (∀ x, aq = some x → ¬ Foot fa v19 x.block) := fun x e f => by
    subst e
    have h1 := (S.lt (show Win w31 w0.heap.size fa v19 n ([]) from HF32.out.win 2 (by simp)) _ f).2
    have h2 := (hoq'.lt x.block rfl).1
    omega
  have HCq : Hid (Chg (fun _ => False) w31 wq) := cq
  have HZq : Hid (w0.heap.size ≤ wq.heap.size) := Nat.le_trans HF32.out.chg.size cq.size
  clear hoq hgq cq hoq' hoE hsrc hone hszE HCE
  go_wp2_with fail
  refine (S.put w0.heap.size fa v19 n [] aq L3 dq b3 wq HWq.out HZq.out HBq.out hd3 HAq.out HMq.out (by omega) (by simp; omega)).mono ?_
  rintro z w33 ⟨rfl, v33, hwq, cq, mq⟩
  have HP33 : Hid (Win w33 w0.heap.size fa v33 n ([] ++ b3) ∧ Chg (Foot fa v19) w31 w33 ∧ Moved w31 v19 v33) := ⟨hwq, (HCq.out.mono (fun _ f => f.elim)).trans cq (fun _ f => .inl f), moved_from HCq.out.size mq⟩
  clear hwq cq mq HWq HBq HAq HCq HZq HMq
  have HF34 : Hid (Fam Win w0 w33 [⟨a, v17, n, b1 ++ b2⟩, ⟨b, u, n, []⟩, ⟨fa, v33, n, [] ++ b3⟩]) := HF32.out.turn S 2 (by simp) v33 ([] ++ b3) HP33.out.1 HP33.out.2.1 HP33.out.2.2
  clear HP33 HF32
  have cE := chg_one w33 (.cells #[] 5)
  have hoE := own_empty w33 5
  have hsrc := (Bk.row8_chg (Bk.row8_chg HR3.out HF34.out.chg) cE).src
  have hone := one8 b3
  have hszE : w33.heap.size ≤ (w33.alloc (.cells #[] 5)).heap.size := cE.size
  have HCE : Hid (Chg (fun _ => False) w33 (w33.alloc (.cells #[] 5))) := cE
  clear cE
  go_wp2_with (at_builtin; refine wpList_append_moved rfl _ _ 22 rfl w33.heap.size 5 iu (.int .u8 0) 1 1 Try.underlying22 hiu hu0 hu1 hu2 rfl (by decide) _ 0 [] rfl a3 L3 c3 rfl ((nums b3).map (Value.int .u8)) hoE hsrc hone (by unfold maxLen; omega) (by omega) hszE ?_)
  intro vq wq hoq hgq _
  have cq : Chg (fun _ => False) w33 wq := HCE.out.grown hgq (fun k e => .inr (by cases e; exact Nat.le_refl _))
  have hoq' : wq.ownsRow w33.heap.size 5 1 vq L3 (ins .u8 (nums b3)) := by simpa [ins_map] using hoq
  obtain ⟨aq, dq, hvq⟩ := form1 hoq'
  subst hvq
  have HWq : Hid (Win wq w0.heap.size b u n []) := S.new (show Win w33 w0.heap.size b u n ([]) from HF34.out.win 1 (by simp)) cq
  have HBq : Hid (Row8 wq aq L3 dq (nums b3)) := row8_own hoq'
  have HMq : Hid (L3 ≤ dq) := own_cap hoq'
  have HAq : Hid (∀ x, aq = some x → ¬ Foot b u x.block) := fun x e f => by
    subst e
    have h1 := (S.lt (show Win w33 w0.heap.size b u n ([]) from HF34.out.win 1 (by simp)) _ f).2
    have h2 := (hoq'.lt x.block rfl).1
    omega
  have HCq : Hid (Chg (fun _ => False) w33 wq) := cq
  have HZq : Hid (w0.heap.size ≤ wq.heap.size) := Nat.le_trans HF34.out.chg.size cq.size
  clear hoq hgq cq hoq' hoE hsrc hone hszE HCE
  go_wp2_with fail
  refine (S.put w0.heap.size b u n [] aq L3 dq b3 wq HWq.out HZq.out HBq.out hd3 HAq.out HMq.out (by omega) (by simp; omega)).mono ?_
  rintro z w35 ⟨rfl, v35, hwq, cq, mq⟩
  have HP35 : Hid (Win w35 w0.heap.size b v35 n ([] ++ b3) ∧ Chg (Foot b u) w33 w35 ∧ Moved w33 u v35) := ⟨hwq, (HCq.out.mono (fun _ f => f.elim)).trans cq (fun _ f => .inl f), moved_from HCq.out.size mq⟩
  clear hwq cq mq HWq HBq HAq HCq HZq HMq
  have HF36 : Hid (Fam Win w0 w35 [⟨a, v17, n, b1 ++ b2⟩, ⟨b, v35, n, [] ++ b3⟩, ⟨fa, v33, n, [] ++ b3⟩]) := HF34.out.turn S 1 (by simp) v35 ([] ++ b3) HP35.out.1 HP35.out.2.1 HP35.out.2.2
  clear HP35 HF34
  have HFA : Hid (Fam Win w0 w35 [⟨a, v17, n, b1 ++ b2⟩, ⟨b, v35, n, b3⟩, ⟨fa, v33, n, b3⟩]) := HF36.out
  clear HF36
  go_wp2_with fail
  go_loopw [14] (fun kv wr => ∃ k : Nat, 1 ≤ k ∧ k ≤ L3 + 1 ∧ kv = .int .i64 (k : Int) ∧ Hid (Fam Win w0 wr [⟨a, v17, n, b1 ++ b2⟩, ⟨b, v35, n, b3⟩, ⟨fa, v33, n, b3⟩])) (fun kv _ => L3 + 1 - (intOf kv).toNat)
  case atStart => exact ⟨1, Nat.le_refl _, by omega, rfl, HFA.out⟩
  case round =>
    clear HFA
    obtain ⟨k, hk1, hk2, rfl, HFR⟩ := hrel
    by_cases hkL : k ≤ L3
    · have hdk : decide ((k : Int) ≤ (L3 : Int)) = true := by simp; omega
      go_wp2_with fail
      refine (sizeS S (show Win _ w0.heap.size b v35 n b3 from HFR.out.win 1 (by simp))).mono ?_
      rintro z w5 ⟨rfl, c5⟩
      have HF5 : Hid (Fam Win w0 w5 [⟨a, v17, n, b1 ++ b2⟩, ⟨b, v35, n, b3⟩, ⟨fa, v33, n, b3⟩]) := HFR.out.new S c5
      clear c5 HFR
      by_cases hkn : k ≤ n
      · have hdn : decide ((k : Int) ≤ (n : Int)) = true := by simp; omega
        have hin : Inw n b3 (k : Int) := ⟨by omega, by unfold fullN; rw [HB3.out]; omega⟩
        have HIN2 : Hid (Inw n b3 (k : Int)) := hin
        obtain ⟨x, hb⟩ : ∃ x, backB b3 k = x := ⟨_, rfl⟩
        have hbk := backB_at (bs := b3) hk1 (by rw [HB3.out]; omega)
        obtain ⟨K, hK⟩ : ∃ K, K = L3 - k := ⟨_, rfl⟩
        rw [hb, HB3.out, ← hK] at hbk
        have hki : (L3 : Int) - (k : Int) = (K : Int) := by omega
        have hkl : K < L3 := by omega
        have HBK : Hid (b3[K]? = some x) := hbk
        have HB : Hid (backB b3 k = x) := hb
        clear hin hb hbk hK
        go_wp2_with fail
        refine (S.last w0.heap.size fa v33 n b3 (k : Int) _ (show Win _ w0.heap.size fa v33 n b3 from HF5.out.win 2 (by simp)) (by rw [HB3.out]; omega) ⟨by omega, by omega⟩).mono ?_
        rintro z w6 ⟨h6 | ⟨_, rfl⟩, c6⟩
        · exact absurd HIN2.out h6.1
        rw [show ((k : Int)).toNat = k from Int.toNat_natCast k, HB.out]
        have HF6 : Hid (Fam Win w0 w6 [⟨a, v17, n, b1 ++ b2⟩, ⟨b, v35, n, b3⟩, ⟨fa, v33, n, b3⟩]) := HF5.out.new S c6
        clear c6 HF5
        go_wp2_with fail
        refine (S.last w0.heap.size b v35 n b3 (k : Int) _ (show Win _ w0.heap.size b v35 n b3 from HF6.out.win 1 (by simp)) (by rw [HB3.out]; omega) ⟨by omega, by omega⟩).mono ?_
        rintro z w7 ⟨h7 | ⟨_, rfl⟩, c7⟩
        · exact absurd HIN2.out h7.1
        rw [show ((k : Int)).toNat = k from Int.toNat_natCast k, HB.out]
        have HF7 : Hid (Fam Win w0 w7 [⟨a, v17, n, b1 ++ b2⟩, ⟨b, v35, n, b3⟩, ⟨fa, v33, n, b3⟩]) := HF6.out.new S c7
        obtain ⟨y, rfl, hcell⟩ := row8_cell (Bk.row8_chg HR3.out HF7.out.chg) HBK.out
        clear c7 HF6
        go_wp2_with fail
        go_roundw
        case rel => exact ⟨k + 1, by omega, by omega, by go_num, HF7.out⟩
        case measure => simp [intOf]; omega
      · have hdn : decide ((k : Int) ≤ (n : Int)) = false := by simp; omega
        skip
        generalize w5 = W1 at *
        have HFR : Hid (Fam Win w0 W1 [⟨a, v17, n, b1 ++ b2⟩, ⟨b, v35, n, b3⟩, ⟨fa, v33, n, b3⟩]) := HF5.out
        clear HF5
        have cE := chg_one W1 (.cells #[] 5)
        have hoE := own_empty W1 5
        have hsrc := (Bk.row8_chg HR1.out (chg_then HFR.out.chg cE)).src
        have hone := one8 b1
        have hszE : W1.heap.size ≤ (W1.alloc (.cells #[] 5)).heap.size := cE.size
        have HCE : Hid (Chg (fun _ => False) W1 (W1.alloc (.cells #[] 5))) := cE
        clear cE
        go_wp2_with (at_builtin; refine wpList_append_moved rfl _ _ 22 rfl W1.heap.size 5 iu (.int .u8 0) 1 1 Try.underlying22 hiu hu0 hu1 hu2 rfl (by decide) _ 0 [] rfl a1 L1 c1 rfl ((nums b1).map (Value.int .u8)) hoE hsrc hone (by unfold maxLen; omega) (by omega) hszE ?_)
        intro vq wq hoq hgq _
        have cq : Chg (fun _ => False) W1 wq := HCE.out.grown hgq (fun k e => .inr (by cases e; exact Nat.le_refl _))
        have hoq' : wq.ownsRow W1.heap.size 5 1 vq L1 (ins .u8 (nums b1)) := by simpa [ins_map] using hoq
        obtain ⟨aq, dq, hvq⟩ := form1 hoq'
        subst hvq
        have hsrc2 := (Bk.row8_chg HR2.out (chg_then HFR.out.chg cq)).src
        have hone2 := one8 b2
        have hsz2 : W1.heap.size ≤ wq.heap.size := cq.size
        have HCQ : Hid (Chg (fun _ => False) W1 wq) := cq
        clear hoq hgq cq hoE hsrc hone hszE HCE
        go_wp2_with (at_builtin; refine wpList_append_moved rfl _ _ 22 rfl W1.heap.size 5 iu (.int .u8 0) 1 1 Try.underlying22 hiu hu0 hu1 hu2 rfl (by decide) _ L1 (ins .u8 (nums b1)) rfl a2 L2 c2 rfl ((nums b2).map (Value.int .u8)) hoq' hsrc2 hone2 (by unfold maxLen; omega) (by omega) hsz2 ?_)
        intro vt wt hot hgt _
        obtain ⟨at_, dt, hvt⟩ := form1 hot
        subst hvt
        have ct : Chg (fun _ => False) W1 wt := HCQ.out.grown hgt (fun k e => .inr (hoq'.lt k e).1)
        obtain ⟨E, hE⟩ : ∃ E, L1 + L2 = E := ⟨_, rfl⟩
        rw [hE] at hot
        have HYE : Hid ((b1 ++ b2).length = E) := by show _ = _; rw [List.length_append, HB1.out, HB2.out, hE]
        have HA : Hid (wt.ownsRow W1.heap.size 5 1 (.slice at_ E dt) E (ins .u8 (nums (b1 ++ b2)))) := own_app hot
        have HFT : Hid (Fam Win w0 wt [⟨a, v17, n, b1 ++ b2⟩, ⟨b, v35, n, b3⟩, ⟨fa, v33, n, b3⟩]) := HFR.out.new S ct
        have hE9 : E ≤ 140737488355328 := by omega
        have HS1 : Hid (w0.heap.size ≤ W1.heap.size) := HFR.out.chg.size
        rw [hE]
        clear hot hgt ct hoq' hsrc2 hone2 hsz2 HCQ HFR hE hL
        obtain ⟨F, hF⟩ : ∃ F, fullN n (b1 ++ b2) = F := ⟨_, rfl⟩
        have HF : Hid (fullN n (b1 ++ b2) = F) := hF
        have hFmin : min E n = F := by rw [← hF]; unfold fullN; rw [HYE.out]
        have HFE : Hid (F ≤ E ∧ F ≤ 2000) := by show _ ∧ _; rw [← hFmin]; have := HN.out; omega
        have HFM : Hid (min E n = F) := hFmin
        clear hF hFmin
        go_wp2_with fail
        go_loopw [20] (fun dv wr => ∃ d : Nat, 1 ≤ d ∧ d ≤ F + 1 ∧ dv = .int .i64 (d : Int) ∧ Hid (Fam Win w0 wr [⟨a, v17, n, b1 ++ b2⟩, ⟨b, v35, n, b3⟩, ⟨fa, v33, n, b3⟩]) ∧ Hid (wr.ownsRow W1.heap.size 5 1 (.slice at_ E dt) E (ins .u8 (nums (b1 ++ b2))))) (fun dv _ => F + 1 - (intOf dv).toNat)
        case atStart => exact ⟨1, Nat.le_refl _, by omega, rfl, HFT.out, HA.out⟩
        case round =>
          clear HFT HA
          obtain ⟨d, hd1, hd2, rfl, HFR, HA⟩ := hrel
          have hF9 : (F : Int) ≤ 2000 := by have := HFE.out; omega
          go_wp2_with fail
          refine (fullS S (show Win _ w0.heap.size a v17 n (b1 ++ b2) from HFR.out.win 0 (by simp))).mono ?_
          rintro z w6 ⟨rfl, c6⟩
          rw [HF.out]
          have HF6 : Hid (Fam Win w0 w6 [⟨a, v17, n, b1 ++ b2⟩, ⟨b, v35, n, b3⟩, ⟨fa, v33, n, b3⟩]) := HFR.out.new S c6
          have HA6 : Hid (w6.ownsRow W1.heap.size 5 1 (.slice at_ E dt) E (ins .u8 (nums (b1 ++ b2)))) := ownsRow_keep HA.out c6 (fun _ _ f => f)
          clear c6 HFR HA
          by_cases hle : d ≤ F
          · have hdd : decide ((d : Int) ≤ (F : Int)) = true := by simp; omega
            have hin : Inw n (b1 ++ b2) (d : Int) := ⟨by omega, by rw [HF.out]; omega⟩
            have HIN2 : Hid (Inw n (b1 ++ b2) (d : Int)) := hin
            obtain ⟨x, hb⟩ : ∃ x, backB (b1 ++ b2) d = x := ⟨_, rfl⟩
            have hbk := backB_at (bs := b1 ++ b2) hd1 (by have := HFE.out; rw [HYE.out]; omega)
            obtain ⟨K, hK⟩ : ∃ K, K = E - d := ⟨_, rfl⟩
            rw [hb, HYE.out, ← hK] at hbk
            have hki : (E : Int) - (d : Int) = (K : Int) := by have := HFE.out; omega
            have hkl : K < E := by have := HFE.out; omega
            have HBK : Hid ((b1 ++ b2)[K]? = some x) := hbk
            have HB : Hid (backB (b1 ++ b2) d = x) := hb
            clear hin hb hbk hK
            go_wp2_with fail
            refine (S.last w0.heap.size a v17 n (b1 ++ b2) (d : Int) _ (show Win _ w0.heap.size a v17 n (b1 ++ b2) from HF6.out.win 0 (by simp)) (by have := HYE.out; omega) ⟨by omega, by omega⟩).mono ?_
            rintro z w7 ⟨h7 | ⟨_, rfl⟩, c7⟩
            · exact absurd HIN2.out h7.1
            rw [show ((d : Int)).toNat = d from Int.toNat_natCast d, HB.out]
            have HF7 : Hid (Fam Win w0 w7 [⟨a, v17, n, b1 ++ b2⟩, ⟨b, v35, n, b3⟩, ⟨fa, v33, n, b3⟩]) := HF6.out.new S c7
            have HA7 : Hid (w7.ownsRow W1.heap.size 5 1 (.slice at_ E dt) E (ins .u8 (nums (b1 ++ b2)))) := ownsRow_keep HA6.out c7 (fun _ _ f => f)
            obtain ⟨y, rfl, hcell⟩ := row8_cell (row8_own HA7.out) HBK.out
            clear c7 HF6 HA6
            go_wp2_with fail
            go_roundw
            case rel => exact ⟨d + 1, by omega, by omega, by go_num, HF7.out, HA7.out⟩
            case measure => simp [intOf]; omega
          · have hdd : decide ((d : Int) ≤ (F : Int)) = false := by simp; omega
            go_wp2_with fail
            refine (fullS S (show Win _ w0.heap.size a v17 n (b1 ++ b2) from HF6.out.win 0 (by simp))).mono ?_
            rintro z w7 ⟨rfl, c7⟩
            rw [HF.out]
            have HF7 : Hid (Fam Win w0 w7 [⟨a, v17, n, b1 ++ b2⟩, ⟨b, v35, n, b3⟩, ⟨fa, v33, n, b3⟩]) := HF6.out.new S c7
            clear c7 HF6 HA6
            go_wp2_with fail
            refine (sizeS S (show Win _ w0.heap.size a v17 n (b1 ++ b2) from HF7.out.win 0 (by simp))).mono ?_
            rintro z w8 ⟨rfl, c8⟩
            have HF8 : Hid (Fam Win w0 w8 [⟨a, v17, n, b1 ++ b2⟩, ⟨b, v35, n, b3⟩, ⟨fa, v33, n, b3⟩]) := HF7.out.new S c8
            clear c8 HF7
            by_cases hnE : n < E
            · have e1 : n = F := by have := HFM.out; omega
              have hdn : decide ((n : Int) < (E : Int)) = true := by simp; omega
              subst e1
              go_wp2_with fail
              refine (posS S (show Win _ w0.heap.size fa v33 n b3 from HF8.out.win 2 (by simp))).mono ?_
              rintro z w9 ⟨rfl, c9⟩
              rw [HB3.out]
              have HC9 : Hid (Chg (fun _ => False) w0 w9) := chg_then HF8.out.chg c9
              clear c9 HF8
              go_wp2
              go_ret
              exact ⟨rfl, HC9.out⟩
            · have e1 : E = F := by have := HFM.out; omega
              have hdn : decide ((n : Int) < (E : Int)) = false := by simp; omega
              subst e1
              go_wp2_with fail
              refine (posS S (show Win _ w0.heap.size fa v33 n b3 from HF8.out.win 2 (by simp))).mono ?_
              rintro z w9 ⟨rfl, c9⟩
              rw [HB3.out]
              have HC9 : Hid (Chg (fun _ => False) w0 w9) := chg_then HF8.out.chg c9
              clear c9 HF8
              go_wp2
              go_ret
              exact ⟨rfl, HC9.out⟩
    · have hdk : decide ((k : Int) ≤ (L3 : Int)) = false := by simp; omega
      skip
      generalize wr = W1 at *
      have cE := chg_one W1 (.cells #[] 5)
      have hoE := own_empty W1 5
      have hsrc := (Bk.row8_chg HR1.out (chg_then HFR.out.chg cE)).src
      have hone := one8 b1
      have hszE : W1.heap.size ≤ (W1.alloc (.cells #[] 5)).heap.size := cE.size
      have HCE : Hid (Chg (fun _ => False) W1 (W1.alloc (.cells #[] 5))) := cE
      clear cE
      go_wp2_with (at_builtin; refine wpList_append_moved rfl _ _ 22 rfl W1.heap.size 5 iu (.int .u8 0) 1 1 Try.underlying22 hiu hu0 hu1 hu2 rfl (by decide) _ 0 [] rfl a1 L1 c1 rfl ((nums b1).map (Value.int .u8)) hoE hsrc hone (by unfold maxLen; omega) (by omega) hszE ?_)
      intro vq wq hoq hgq _
      have cq : Chg (fun _ => False) W1 wq := HCE.out.grown hgq (fun k e => .inr (by cases e; exact Nat.le_refl _))
      have hoq' : wq.ownsRow W1.heap.size 5 1 vq L1 (ins .u8 (nums b1)) := by simpa [ins_map] using hoq
      obtain ⟨aq, dq, hvq⟩ := form1 hoq'
      subst hvq
      have hsrc2 := (Bk.row8_chg HR2.out (chg_then HFR.out.chg cq)).src
      have hone2 := one8 b2
      have hsz2 : W1.heap.size ≤ wq.heap.size := cq.size
      have HCQ : Hid (Chg (fun _ => False) W1 wq) := cq
      clear hoq hgq cq hoE hsrc hone hszE HCE
      go_wp2_with (at_builtin; refine wpList_append_moved rfl _ _ 22 rfl W1.heap.size 5 iu (.int .u8 0) 1 1 Try.underlying22 hiu hu0 hu1 hu2 rfl (by decide) _ L1 (ins .u8 (nums b1)) rfl a2 L2 c2 rfl ((nums b2).map (Value.int .u8)) hoq' hsrc2 hone2 (by unfold maxLen; omega) (by omega) hsz2 ?_)
      intro vt wt hot hgt _
      obtain ⟨at_, dt, hvt⟩ := form1 hot
      subst hvt
      have ct : Chg (fun _ => False) W1 wt := HCQ.out.grown hgt (fun k e => .inr (hoq'.lt k e).1)
      obtain ⟨E, hE⟩ : ∃ E, L1 + L2 = E := ⟨_, rfl⟩
      rw [hE] at hot
      have HYE : Hid ((b1 ++ b2).length = E) := by show _ = _; rw [List.length_append, HB1.out, HB2.out, hE]
      have HA : Hid (wt.ownsRow W1.heap.size 5 1 (.slice at_ E dt) E (ins .u8 (nums (b1 ++ b2)))) := own_app hot
      have HFT : Hid (Fam Win w0 wt [⟨a, v17, n, b1 ++ b2⟩, ⟨b, v35, n, b3⟩, ⟨fa, v33, n, b3⟩]) := HFR.out.new S ct
      have hE9 : E ≤ 140737488355328 := by omega
      have HS1 : Hid (w0.heap.size ≤ W1.heap.size) := HFR.out.chg.size
      rw [hE]
      clear hot hgt ct hoq' hsrc2 hone2 hsz2 HCQ HFR hE hL
      obtain ⟨F, hF⟩ : ∃ F, fullN n (b1 ++ b2) = F := ⟨_, rfl⟩
      have HF : Hid (fullN n (b1 ++ b2) = F) := hF
      have hFmin : min E n = F := by rw [← hF]; unfold fullN; rw [HYE.out]
      have HFE : Hid (F ≤ E ∧ F ≤ 2000) := by show _ ∧ _; rw [← hFmin]; have := HN.out; omega
      have HFM : Hid (min E n = F) := hFmin
      clear hF hFmin
      go_wp2_with fail
      go_loopw [20] (fun dv wr => ∃ d : Nat, 1 ≤ d ∧ d ≤ F + 1 ∧ dv = .int .i64 (d : Int) ∧ Hid (Fam Win w0 wr [⟨a, v17, n, b1 ++ b2⟩, ⟨b, v35, n, b3⟩, ⟨fa, v33, n, b3⟩]) ∧ Hid (wr.ownsRow W1.heap.size 5 1 (.slice at_ E dt) E (ins .u8 (nums (b1 ++ b2))))) (fun dv _ => F + 1 - (intOf dv).toNat)
      case atStart => exact ⟨1, Nat.le_refl _, by omega, rfl, HFT.out, HA.out⟩
      case round =>
        clear HFT HA
        obtain ⟨d, hd1, hd2, rfl, HFR, HA⟩ := hrel
        have hF9 : (F : Int) ≤ 2000 := by have := HFE.out; omega
        go_wp2_with fail
        refine (fullS S (show Win _ w0.heap.size a v17 n (b1 ++ b2) from HFR.out.win 0 (by simp))).mono ?_
        rintro z w6 ⟨rfl, c6⟩
        rw [HF.out]
        have HF6 : Hid (Fam Win w0 w6 [⟨a, v17, n, b1 ++ b2⟩, ⟨b, v35, n, b3⟩, ⟨fa, v33, n, b3⟩]) := HFR.out.new S c6
        have HA6 : Hid (w6.ownsRow W1.heap.size 5 1 (.slice at_ E dt) E (ins .u8 (nums (b1 ++ b2)))) := ownsRow_keep HA.out c6 (fun _ _ f => f)
        clear c6 HFR HA
        by_cases hle : d ≤ F
        · have hdd : decide ((d : Int) ≤ (F : Int)) = true := by simp; omega
          have hin : Inw n (b1 ++ b2) (d : Int) := ⟨by omega, by rw [HF.out]; omega⟩
          have HIN2 : Hid (Inw n (b1 ++ b2) (d : Int)) := hin
          obtain ⟨x, hb⟩ : ∃ x, backB (b1 ++ b2) d = x := ⟨_, rfl⟩
          have hbk := backB_at (bs := b1 ++ b2) hd1 (by have := HFE.out; rw [HYE.out]; omega)
          obtain ⟨K, hK⟩ : ∃ K, K = E - d := ⟨_, rfl⟩
          rw [hb, HYE.out, ← hK] at hbk
          have hki : (E : Int) - (d : Int) = (K : Int) := by have := HFE.out; omega
          have hkl : K < E := by have := HFE.out; omega
          have HBK : Hid ((b1 ++ b2)[K]? = some x) := hbk
          have HB : Hid (backB (b1 ++ b2) d = x) := hb
          clear hin hb hbk hK
          go_wp2_with fail
          refine (S.last w0.heap.size a v17 n (b1 ++ b2) (d : Int) _ (show Win _ w0.heap.size a v17 n (b1 ++ b2) from HF6.out.win 0 (by simp)) (by have := HYE.out; omega) ⟨by omega, by omega⟩).mono ?_
          rintro z w7 ⟨h7 | ⟨_, rfl⟩, c7⟩
          · exact absurd HIN2.out h7.1
          rw [show ((d : Int)).toNat = d from Int.toNat_natCast d, HB.out]
          have HF7 : Hid (Fam Win w0 w7 [⟨a, v17, n, b1 ++ b2⟩, ⟨b, v35, n, b3⟩, ⟨fa, v33, n, b3⟩]) := HF6.out.new S c7
          have HA7 : Hid (w7.ownsRow W1.heap.size 5 1 (.slice at_ E dt) E (ins .u8 (nums (b1 ++ b2)))) := ownsRow_keep HA6.out c7 (fun _ _ f => f)
          obtain ⟨y, rfl, hcell⟩ := row8_cell (row8_own HA7.out) HBK.out
          clear c7 HF6 HA6
          go_wp2_with fail
          go_roundw
          case rel => exact ⟨d + 1, by omega, by omega, by go_num, HF7.out, HA7.out⟩
          case measure => simp [intOf]; omega
        · have hdd : decide ((d : Int) ≤ (F : Int)) = false := by simp; omega
          go_wp2_with fail
          refine (fullS S (show Win _ w0.heap.size a v17 n (b1 ++ b2) from HF6.out.win 0 (by simp))).mono ?_
          rintro z w7 ⟨rfl, c7⟩
          rw [HF.out]
          have HF7 : Hid (Fam Win w0 w7 [⟨a, v17, n, b1 ++ b2⟩, ⟨b, v35, n, b3⟩, ⟨fa, v33, n, b3⟩]) := HF6.out.new S c7
          clear c7 HF6 HA6
          go_wp2_with fail
          refine (sizeS S (show Win _ w0.heap.size a v17 n (b1 ++ b2) from HF7.out.win 0 (by simp))).mono ?_
          rintro z w8 ⟨rfl, c8⟩
          have HF8 : Hid (Fam Win w0 w8 [⟨a, v17, n, b1 ++ b2⟩, ⟨b, v35, n, b3⟩, ⟨fa, v33, n, b3⟩]) := HF7.out.new S c8
          clear c8 HF7
          by_cases hnE : n < E
          · have e1 : n = F := by have := HFM.out; omega
            have hdn : decide ((n : Int) < (E : Int)) = true := by simp; omega
            subst e1
            go_wp2_with fail
            refine (posS S (show Win _ w0.heap.size fa v33 n b3 from HF8.out.win 2 (by simp))).mono ?_
            rintro z w9 ⟨rfl, c9⟩
            rw [HB3.out]
            have HC9 : Hid (Chg (fun _ => False) w0 w9) := chg_then HF8.out.chg c9
            clear c9 HF8
            go_wp2
            go_ret
            exact ⟨rfl, HC9.out⟩
          · have e1 : E = F := by have := HFM.out; omega
            have hdn : decide ((n : Int) < (E : Int)) = false := by simp; omega
            subst e1
            go_wp2_with fail
            refine (posS S (show Win _ w0.heap.size fa v33 n b3 from HF8.out.win 2 (by simp))).mono ?_
            rintro z w9 ⟨rfl, c9⟩
            rw [HB3.out]
            have HC9 : Hid (Chg (fun _ => False) w0 w9) := chg_then HF8.out.chg c9
            clear c9 HF8
            go_wp2
            go_ret
            exact ⟨rfl, HC9.out⟩
end Go.Proofs.Ythgibmhbgfjkcaa
