/- The walk of WindowLast above what is asked of the program's windows; of no statement by itself. -/
import Derived.Test.YthgibmhbgfjkcaaWp
import Derived.Deep.DeepCutAuto
namespace Go.Proofs.Ythgibmhbgfjkcaa
open Go.RowKit
set_option linter.unusedVariables false

variable {Win : World → Nat → Nat → Value → Nat → List Nat → Prop}
theorem take_more (bs : List Nat) (t r : Nat) : bs.take t ++ (bs.drop t).take r = bs.take (t + r) := (List.take_add ..).symm
theorem Dig.part {bs : List Nat} (h : Rc.Dig bs) (t r : Nat) : Rc.Dig ((bs.drop t).take r) := fun x hx => h x (List.mem_of_mem_drop (List.mem_of_mem_take hx))
set_option maxHeartbeats 4000000 in
set_option maxRecDepth 100000 in
theorem wlast_any (S : WinSpec Win) (sz : Int) (ad : Option Addr) (L c : Nat) (bs : List Nat) (al : Option Addr) (Z cl : Nat) (l : List Int) (dist m : Int) (w0 : World) (hr : Row8 w0 ad L c (nums bs)) (hLc : L ≤ c) (hdig : Rc.Dig bs) (hL : L ≤ 140737488351232) (hIL : IntsL w0 al l) (hlw : ∀ i ∈ l, I64 i) (hZ : l.length = Z) (hZ9 : Z ≤ 9223372036854775807) (hdi : I64 dist) (hm : I64 m) : Calls Try.prog 4 #[.int .i64 sz, .slice ad L c, .slice al Z cl, .int .i64 dist, .int .i64 m] w0 fun e w' => e = .returned (.bool true) ∧ Chg (fun _ => False) w0 w' := by
  obtain ⟨iu, hiu, hu0, hu1, hu2⟩ := info_parts infoU8
  have hne := pW_ne
  have HR0 : Hid (Row8 w0 ad L c (nums bs)) := hr
  have HIN : Hid (IntsL w0 al l ∧ (∀ i ∈ l, I64 i) ∧ l.length = Z) := ⟨hIL, hlw, hZ⟩
  have HBL : Hid (bs.length = L) := by have := hr.1; rw [nums_len] at this; exact this
  obtain ⟨n, hsz⟩ : ∃ n, szN sz = n := ⟨_, rfl⟩
  have HN : Hid (1 ≤ n ∧ n ≤ 2000) := by show _ ∧ _; rw [← hsz]; exact szN_in sz
  have HMD1 : Hid _ := made_any S sz n hsz none 0 0 [] w0 ⟨rfl, .inl ⟨rfl, rfl, rfl⟩⟩ (fun x hx => (List.not_mem_nil hx).elim) (by omega)
  clear hr hIL hlw hZ hsz
  go_enter Try.func4, Try.ntmps4
  go_wp2_with fail
  refine Calls.mono HMD1.out ?_
  rintro z w1 ⟨a, v, rfl, hw1, c1⟩
  have HW1 : Hid (Win w1 w0.heap.size a v n (bs.take 0)) := hw1
  have HC1 : Hid (Chg (fun _ => False) w0 w1) := c1
  clear hw1 c1 HMD1
  go_wp2_with fail
  go_loopw [12, 30] (fun tv jv wr => ∃ (t j : Nat) (v : Value), t ≤ L ∧ j ≤ Z ∧ tv = .int .i64 (t : Int) ∧ jv = .int .i64 (j : Int) ∧ Hid (Win wr w0.heap.size a v n (bs.take t)) ∧ Hid (Chg (fun _ => False) w0 wr)) (fun _ jv _ => Z - (intOf jv).toNat)
  case atStart => exact ⟨0, 0, v, Nat.zero_le _, Nat.zero_le _, rfl, rfl, HW1.out, HC1.out⟩
  case round =>
    clear HW1 HC1
    obtain ⟨t, j, v, ht, hj, rfl, rfl, HW, HC⟩ := hrel
    by_cases hlt : j < Z
    · have hdj : decide ((j : Int) < (Z : Int)) = true := by simp; omega
      obtain ⟨i, hi⟩ : ∃ i, l[j]? = some i := ⟨_, List.getElem?_eq_getElem (by rw [HIN.out.2.2]; exact hlt)⟩
      obtain ⟨bb, off, rfl, hcell⟩ := (HIN.out.1.new HC.out) j i hi
      obtain ⟨hi1, hi2⟩ := HIN.out.2.1 i (List.mem_of_getElem? hi)
      clear hi
      obtain ⟨P, hP⟩ : ∃ P : Nat, P = L - t := ⟨_, rfl⟩
      have hPi : (L : Int) - (t : Int) = (P : Int) := by omega
      have hP0 : decide ((P : Int) + 1 = 0) = false := by simp; omega
      have hPb : (P : Int) ≤ 140737488351232 := by omega
      have HPL : Hid (P = L - t) := hP
      clear hP
      by_cases hneg : i < 0
      · have hd1 : decide (i < 0) = true := by simp; omega
        obtain ⟨R, hR, hRP⟩ : ∃ R : Nat, (i + 1).tmod ((P : Int) + 1) = -(R : Int) ∧ R ≤ P := by
          have h1 : (i + 1).tmod ((P : Int) + 1) = -((-(i + 1)).tmod ((P : Int) + 1)) := by rw [Int.neg_tmod, Int.neg_neg]
          have h2 : (-(i + 1)).tmod ((P : Int) + 1) = (-(i + 1)) % ((P : Int) + 1) := Int.tmod_eq_emod_of_nonneg (by omega)
          have h3 := Int.emod_nonneg (-(i + 1)) (show (P : Int) + 1 ≠ 0 by omega)
          have h4 := Int.emod_lt_of_pos (-(i + 1)) (show (0 : Int) < (P : Int) + 1 by omega)
          exact ⟨((-(i + 1)) % ((P : Int) + 1)).toNat, by rw [h1, h2]; omega, by omega⟩
        obtain ⟨T, hT⟩ : ∃ T : Nat, T = t + R := ⟨_, rfl⟩
        have hTi : (t : Int) + (R : Int) = (T : Int) := by omega
        have hTc : T ≤ c := by have := HPL.out; omega
        have htT : t ≤ T := by omega
        have hTb : (T : Int) ≤ 140737488351232 := by have := HPL.out; omega
        have HT : Hid (T = t + R ∧ T ≤ L) := ⟨hT, by have := HPL.out; omega⟩
        clear hT hRP
        by_cases hct : c = t
        · skip
          have q1 : c = T := by omega
          have q2 : 0 = R := by have := HT.out.1; omega
          subst hct q1 q2
          have hrow : Row8 wr ad 0 0 (nums []) := by
            rcases (Bk.row8_chg HR0.out HC.out).2 with ⟨h1, _, _⟩ | ⟨x, h1, _⟩
            · exact ⟨rfl, .inl ⟨h1, rfl, rfl⟩⟩
            · exact ⟨rfl, .inr ⟨x, h1, fun j u hu => by simp [nums] at hu⟩⟩
          have hdg : Rc.Dig [] := fun x hx => (List.not_mem_nil hx).elim
          have HXS : Hid (bs.take c ++ [] = bs.take c) := List.append_nil _
          have cE := chg_one wr (.cells #[] 5)
          have hoE := own_empty wr 5
          have hsrc := (Bk.row8_chg hrow cE).src
          have hone := one8 ([] : List Nat)
          have hszE : wr.heap.size ≤ (wr.alloc (.cells #[] 5)).heap.size := cE.size
          have HCE : Hid (Chg (fun _ => False) wr (wr.alloc (.cells #[] 5))) := cE
          clear cE hrow
          go_wp2_with (at_builtin; refine wpList_append_moved rfl _ _ 22 rfl wr.heap.size 5 iu (.int .u8 0) 1 1 Try.underlying22 hiu hu0 hu1 hu2 rfl (by decide) _ 0 [] rfl ad 0 0 rfl ((nums ([] : List Nat)).map (Value.int .u8)) hoE hsrc hone (by unfold maxLen; omega) (by omega) hszE ?_)
          intro vq wq hoq hgq _
          have cq : Chg (fun _ => False) wr wq := HCE.out.grown hgq (fun k e => .inr (by cases e; exact Nat.le_refl _))
          have hoq' : wq.ownsRow wr.heap.size 5 1 vq 0 (ins .u8 (nums ([] : List Nat))) := by simpa [ins_map] using hoq
          obtain ⟨aq, dq, hvq⟩ := form1 hoq'
          subst hvq
          have HWq : Hid (Win wq w0.heap.size a v n (bs.take c)) := S.new HW.out cq
          have HBq : Hid (Row8 wq aq 0 dq (nums ([] : List Nat))) := row8_own hoq'
          have HMq : Hid (0 ≤ dq) := own_cap hoq'
          have HAq : Hid (∀ x, aq = some x → ¬ Foot a v x.block) := fun x e f => by
            subst e
            have h1 := (S.lt HW.out _ f).2
            have h2 := (hoq'.lt x.block rfl).1
            omega
          have HCq : Hid (Chg (fun _ => False) wr wq) := cq
          have HZq : Hid (w0.heap.size ≤ wq.heap.size) := Nat.le_trans HC.out.size cq.size
          clear hoq hgq cq hoq' hoE hsrc hone hszE HCE
          go_wp2_with fail
          refine (S.put w0.heap.size a v n (bs.take c) aq 0 dq ([] : List Nat) wq HWq.out HZq.out HBq.out hdg HAq.out HMq.out (by omega) (by rw [List.length_take]; have := HBL.out; omega)).mono ?_
          rintro z w4 ⟨rfl, v4, hwq, cq, mq⟩
          have HP4 : Hid (Win w4 w0.heap.size a v4 n ((bs.take c) ++ ([] : List Nat)) ∧ Chg (Foot a v) wr w4 ∧ Moved wr v v4) := ⟨hwq, (HCq.out.mono (fun _ f => f.elim)).trans cq (fun _ f => .inl f), moved_from HCq.out.size mq⟩
          clear hwq cq mq HWq HBq HAq HCq HZq HMq
          have HW4 : Hid (Win w4 w0.heap.size a v4 n (bs.take c)) := by have h9 := HP4.out.1; rw [HXS.out] at h9; exact h9
          have HC4 : Hid (Chg (fun _ => False) w0 w4) := HC.out.trans HP4.out.2.1 (fun z f => .inr (S.lt HW.out z f).1)
          have hT2 : c ≤ L := HT.out.2
          clear HP4 HW HC hcell HXS hdg
          go_wp2_with fail
          go_roundw
          case rel => exact ⟨c, j + 1, v4, hT2, by omega, rfl, by go_num, HW4.out, HC4.out⟩
          case measure => simp [intOf]; omega
        · skip
          obtain ⟨x, rfl⟩ : ∃ x, ad = some x := by
            rcases HR0.out.2 with ⟨_, h1, h2⟩ | ⟨x, h1, _⟩
            · exact absurd (show c = t by omega) hct
            · exact ⟨x, h1⟩
          have hrow : Row8 wr (some (x.add t)) (T - t) (c - t) (nums ((bs.drop t).take (T - t))) := by
            have h9 := row8_cut (Bk.row8_chg HR0.out HC.out) hLc t (T - t) (c - t) (by have := HT.out.2; omega) (by omega)
            rw [nums_cut, if_neg hct] at h9
            exact h9
          have hdg := Dig.part hdig t (T - t)
          have HXS : Hid (bs.take t ++ (bs.drop t).take (T - t) = bs.take T) := by show _ = _; rw [take_more, show t + (T - t) = T by omega]
          have cE := chg_one wr (.cells #[] 5)
          have hoE := own_empty wr 5
          have hsrc := (Bk.row8_chg hrow cE).src
          have hone := one8 ((bs.drop t).take (T - t))
          have hszE : wr.heap.size ≤ (wr.alloc (.cells #[] 5)).heap.size := cE.size
          have HCE : Hid (Chg (fun _ => False) wr (wr.alloc (.cells #[] 5))) := cE
          clear cE hrow
          go_wp2_with (at_builtin; refine wpList_append_moved rfl _ _ 22 rfl wr.heap.size 5 iu (.int .u8 0) 1 1 Try.underlying22 hiu hu0 hu1 hu2 rfl (by decide) _ 0 [] rfl (some (x.add t)) (T - t) (c - t) rfl ((nums ((bs.drop t).take (T - t))).map (Value.int .u8)) hoE hsrc hone (by unfold maxLen; omega) (by omega) hszE ?_)
          intro vq wq hoq hgq _
          have cq : Chg (fun _ => False) wr wq := HCE.out.grown hgq (fun k e => .inr (by cases e; exact Nat.le_refl _))
          have hoq' : wq.ownsRow wr.heap.size 5 1 vq (T - t) (ins .u8 (nums ((bs.drop t).take (T - t)))) := by simpa [ins_map] using hoq
          obtain ⟨aq, dq, hvq⟩ := form1 hoq'
          subst hvq
          have HWq : Hid (Win wq w0.heap.size a v n (bs.take t)) := S.new HW.out cq
          have HBq : Hid (Row8 wq aq (T - t) dq (nums ((bs.drop t).take (T - t)))) := row8_own hoq'
          have HMq : Hid ((T - t) ≤ dq) := own_cap hoq'
          have HAq : Hid (∀ x, aq = some x → ¬ Foot a v x.block) := fun x e f => by
            subst e
            have h1 := (S.lt HW.out _ f).2
            have h2 := (hoq'.lt x.block rfl).1
            omega
          have HCq : Hid (Chg (fun _ => False) wr wq) := cq
          have HZq : Hid (w0.heap.size ≤ wq.heap.size) := Nat.le_trans HC.out.size cq.size
          clear hoq hgq cq hoq' hoE hsrc hone hszE HCE
          go_wp2_with fail
          refine (S.put w0.heap.size a v n (bs.take t) aq (T - t) dq ((bs.drop t).take (T - t)) wq HWq.out HZq.out HBq.out hdg HAq.out HMq.out (by omega) (by rw [List.length_take]; have := HBL.out; omega)).mono ?_
          rintro z w4 ⟨rfl, v4, hwq, cq, mq⟩
          have HP4 : Hid (Win w4 w0.heap.size a v4 n ((bs.take t) ++ ((bs.drop t).take (T - t))) ∧ Chg (Foot a v) wr w4 ∧ Moved wr v v4) := ⟨hwq, (HCq.out.mono (fun _ f => f.elim)).trans cq (fun _ f => .inl f), moved_from HCq.out.size mq⟩
          clear hwq cq mq HWq HBq HAq HCq HZq HMq
          have HW4 : Hid (Win w4 w0.heap.size a v4 n (bs.take T)) := by have h9 := HP4.out.1; rw [HXS.out] at h9; exact h9
          have HC4 : Hid (Chg (fun _ => False) w0 w4) := HC.out.trans HP4.out.2.1 (fun z f => .inr (S.lt HW.out z f).1)
          have hT2 : T ≤ L := HT.out.2
          clear HP4 HW HC hcell HXS hdg
          go_wp2_with fail
          go_roundw
          case rel => exact ⟨T, j + 1, v4, hT2, by omega, rfl, by go_num, HW4.out, HC4.out⟩
          case measure => simp [intOf]; omega
      · have hd1 : decide (i < 0) = false := by simp; omega
        obtain ⟨R, hR, hRP⟩ : ∃ R : Nat, i.tmod ((P : Int) + 1) = (R : Int) ∧ R ≤ P := by
          have h2 : i.tmod ((P : Int) + 1) = i % ((P : Int) + 1) := Int.tmod_eq_emod_of_nonneg (by omega)
          have h3 := Int.emod_nonneg i (show (P : Int) + 1 ≠ 0 by omega)
          have h4 := Int.emod_lt_of_pos i (show (0 : Int) < (P : Int) + 1 by omega)
          exact ⟨(i % ((P : Int) + 1)).toNat, by rw [h2]; omega, by omega⟩
        obtain ⟨T, hT⟩ : ∃ T : Nat, T = t + R := ⟨_, rfl⟩
        have hTi : (t : Int) + (R : Int) = (T : Int) := by omega
        have hTc : T ≤ c := by have := HPL.out; omega
        have htT : t ≤ T := by omega
        have hTb : (T : Int) ≤ 140737488351232 := by have := HPL.out; omega
        have HT : Hid (T = t + R ∧ T ≤ L) := ⟨hT, by have := HPL.out; omega⟩
        clear hT hRP
        by_cases hct : c = t
        · skip
          have q1 : c = T := by omega
          have q2 : 0 = R := by have := HT.out.1; omega
          subst hct q1 q2
          have hrow : Row8 wr ad 0 0 (nums []) := by
            rcases (Bk.row8_chg HR0.out HC.out).2 with ⟨h1, _, _⟩ | ⟨x, h1, _⟩
            · exact ⟨rfl, .inl ⟨h1, rfl, rfl⟩⟩
            · exact ⟨rfl, .inr ⟨x, h1, fun j u hu => by simp [nums] at hu⟩⟩
          have hdg : Rc.Dig [] := fun x hx => (List.not_mem_nil hx).elim
          have HXS : Hid (bs.take c ++ [] = bs.take c) := List.append_nil _
          have cE := chg_one wr (.cells #[] 5)
          have hoE := own_empty wr 5
          have hsrc := (Bk.row8_chg hrow cE).src
          have hone := one8 ([] : List Nat)
          have hszE : wr.heap.size ≤ (wr.alloc (.cells #[] 5)).heap.size := cE.size
          have HCE : Hid (Chg (fun _ => False) wr (wr.alloc (.cells #[] 5))) := cE
          clear cE hrow
          go_wp2_with (at_builtin; refine wpList_append_moved rfl _ _ 22 rfl wr.heap.size 5 iu (.int .u8 0) 1 1 Try.underlying22 hiu hu0 hu1 hu2 rfl (by decide) _ 0 [] rfl ad 0 0 rfl ((nums ([] : List Nat)).map (Value.int .u8)) hoE hsrc hone (by unfold maxLen; omega) (by omega) hszE ?_)
          intro vq wq hoq hgq _
          have cq : Chg (fun _ => False) wr wq := HCE.out.grown hgq (fun k e => .inr (by cases e; exact Nat.le_refl _))
          have hoq' : wq.ownsRow wr.heap.size 5 1 vq 0 (ins .u8 (nums ([] : List Nat))) := by simpa [ins_map] using hoq
          obtain ⟨aq, dq, hvq⟩ := form1 hoq'
          subst hvq
          have HWq : Hid (Win wq w0.heap.size a v n (bs.take c)) := S.new HW.out cq
          have HBq : Hid (Row8 wq aq 0 dq (nums ([] : List Nat))) := row8_own hoq'
          have HMq : Hid (0 ≤ dq) := own_cap hoq'
          have HAq : Hid (∀ x, aq = some x → ¬ Foot a v x.block) := fun x e f => by
            subst e
            have h1 := (S.lt HW.out _ f).2
            have h2 := (hoq'.lt x.block rfl).1
            omega
          have HCq : Hid (Chg (fun _ => False) wr wq) := cq
          have HZq : Hid (w0.heap.size ≤ wq.heap.size) := Nat.le_trans HC.out.size cq.size
          clear hoq hgq cq hoq' hoE hsrc hone hszE HCE
          go_wp2_with fail
          refine (S.put w0.heap.size a v n (bs.take c) aq 0 dq ([] : List Nat) wq HWq.out HZq.out HBq.out hdg HAq.out HMq.out (by omega) (by rw [List.length_take]; have := HBL.out; omega)).mono ?_
          rintro z w4 ⟨rfl, v4, hwq, cq, mq⟩
          have HP4 : Hid (Win w4 w0.heap.size a v4 n ((bs.take c) ++ ([] : List Nat)) ∧ Chg (Foot a v) wr w4 ∧ Moved wr v v4) := ⟨hwq, (HCq.out.mono (fun _ f => f.elim)).trans cq (fun _ f => .inl f), moved_from HCq.out.size mq⟩
          clear hwq cq mq HWq HBq HAq HCq HZq HMq
          have HW4 : Hid (Win w4 w0.heap.size a v4 n (bs.take c)) := by have h9 := HP4.out.1; rw [HXS.out] at h9; exact h9
          have HC4 : Hid (Chg (fun _ => False) w0 w4) := HC.out.trans HP4.out.2.1 (fun z f => .inr (S.lt HW.out z f).1)
          have hT2 : c ≤ L := HT.out.2
          clear HP4 HW HC hcell HXS hdg
          go_wp2_with fail
          go_roundw
          case rel => exact ⟨c, j + 1, v4, hT2, by omega, rfl, by go_num, HW4.out, HC4.out⟩
          case measure => simp [intOf]; omega
        · skip
          obtain ⟨x, rfl⟩ : ∃ x, ad = some x := by
            rcases HR0.out.2 with ⟨_, h1, h2⟩ | ⟨x, h1, _⟩
            · exact absurd (show c = t by omega) hct
            · exact ⟨x, h1⟩
          have hrow : Row8 wr (some (x.add t)) (T - t) (c - t) (nums ((bs.drop t).take (T - t))) := by
            have h9 := row8_cut (Bk.row8_chg HR0.out HC.out) hLc t (T - t) (c - t) (by have := HT.out.2; omega) (by omega)
            rw [nums_cut, if_neg hct] at h9
            exact h9
          have hdg := Dig.part hdig t (T - t)
          have HXS : Hid (bs.take t ++ (bs.drop t).take (T - t) = bs.take T) := by show _ = _; rw [take_more, show t + (T - t) = T by omega]
          have cE := chg_one wr (.cells #[] 5)
          have hoE := own_empty wr 5
          have hsrc := (Bk.row8_chg hrow cE).src
          have hone := one8 ((bs.drop t).take (T - t))
          have hszE : wr.heap.size ≤ (wr.alloc (.cells #[] 5)).heap.size := cE.size
          have HCE : Hid (Chg (fun _ => False) wr (wr.alloc (.cells #[] 5))) := cE
          clear cE hrow
          go_wp2_with (at_builtin; refine wpList_append_moved rfl _ _ 22 rfl wr.heap.size 5 iu (.int .u8 0) 1 1 Try.underlying22 hiu hu0 hu1 hu2 rfl (by decide) _ 0 [] rfl (some (x.add t)) (T - t) (c - t) rfl ((nums ((bs.drop t).take (T - t))).map (Value.int .u8)) hoE hsrc hone (by unfold maxLen; omega) (by omega) hszE ?_)
          intro vq wq hoq hgq _
          have cq : Chg (fun _ => False) wr wq := HCE.out.grown hgq (fun k e => .inr (by cases e; exact Nat.le_refl _))
          have hoq' : wq.ownsRow wr.heap.size 5 1 vq (T - t) (ins .u8 (nums ((bs.drop t).take (T - t)))) := by simpa [ins_map] using hoq
          obtain ⟨aq, dq, hvq⟩ := form1 hoq'
          subst hvq
          have HWq : Hid (Win wq w0.heap.size a v n (bs.take t)) := S.new HW.out cq
          have HBq : Hid (Row8 wq aq (T - t) dq (nums ((bs.drop t).take (T - t)))) := row8_own hoq'
          have HMq : Hid ((T - t) ≤ dq) := own_cap hoq'
          have HAq : Hid (∀ x, aq = some x → ¬ Foot a v x.block) := fun x e f => by
            subst e
            have h1 := (S.lt HW.out _ f).2
            have h2 := (hoq'.lt x.block rfl).1
            omega
          have HCq : Hid (Chg (fun _ => False) wr wq) := cq
          have HZq : Hid (w0.heap.size ≤ wq.heap.size) := Nat.le_trans HC.out.size cq.size
          clear hoq hgq cq hoq' hoE hsrc hone hszE HCE
          go_wp2_with fail
          refine (S.put w0.heap.size a v n (bs.take t) aq (T - t) dq ((bs.drop t).take (T - t)) wq HWq.out HZq.out HBq.out hdg HAq.out HMq.out (by omega) (by rw [List.length_take]; have := HBL.out; omega)).mono ?_
          rintro z w4 ⟨rfl, v4, hwq, cq, mq⟩
          have HP4 : Hid (Win w4 w0.heap.size a v4 n ((bs.take t) ++ ((bs.drop t).take (T - t))) ∧ Chg (Foot a v) wr w4 ∧ Moved wr v v4) := ⟨hwq, (HCq.out.mono (fun _ f => f.elim)).trans cq (fun _ f => .inl f), moved_from HCq.out.size mq⟩
          clear hwq cq mq HWq HBq HAq HCq HZq HMq
          have HW4 : Hid (Win w4 w0.heap.size a v4 n (bs.take T)) := by have h9 := HP4.out.1; rw [HXS.out] at h9; exact h9
          have HC4 : Hid (Chg (fun _ => False) w0 w4) := HC.out.trans HP4.out.2.1 (fun z f => .inr (S.lt HW.out z f).1)
          have hT2 : T ≤ L := HT.out.2
          clear HP4 HW HC hcell HXS hdg
          go_wp2_with fail
          go_roundw
          case rel => exact ⟨T, j + 1, v4, hT2, by omega, rfl, by go_num, HW4.out, HC4.out⟩
          case measure => simp [intOf]; omega
    · have hjZ : Z = j := by omega
      subst hjZ
      have hdj : decide ((Z : Int) < (Z : Int)) = false := by simp
      go_upto_region 14 with fail
      go_cut [] (fun wx => ∃ v, Hid (Win wx w0.heap.size a v n bs) ∧ Hid (Chg (fun _ => False) w0 wx))
      case first =>
        have htc : t ≤ c := by omega
        have hLb : (L : Int) ≤ 140737488351232 := by omega
        have hlt' : (t : Int) ≤ (L : Int) := by omega
        by_cases hct : c = t
        · skip
          have q1 : c = L := by omega
          subst hct q1
          have hrow : Row8 wr ad 0 0 (nums []) := by
            rcases (Bk.row8_chg HR0.out HC.out).2 with ⟨h1, _, _⟩ | ⟨x, h1, _⟩
            · exact ⟨rfl, .inl ⟨h1, rfl, rfl⟩⟩
            · exact ⟨rfl, .inr ⟨x, h1, fun j u hu => by simp [nums] at hu⟩⟩
          have hdg : Rc.Dig [] := fun x hx => (List.not_mem_nil hx).elim
          have HXS : Hid (bs.take c ++ [] = bs) := by show _ = _; rw [List.append_nil, List.take_of_length_le (by rw [HBL.out]; exact Nat.le_refl _)]
          have cE := chg_one wr (.cells #[] 5)
          have hoE := own_empty wr 5
          have hsrc := (Bk.row8_chg hrow cE).src
          have hone := one8 ([] : List Nat)
          have hszE : wr.heap.size ≤ (wr.alloc (.cells #[] 5)).heap.size := cE.size
          have HCE : Hid (Chg (fun _ => False) wr (wr.alloc (.cells #[] 5))) := cE
          clear cE hrow
          go_wp2_with (at_builtin; refine wpList_append_moved rfl _ _ 22 rfl wr.heap.size 5 iu (.int .u8 0) 1 1 Try.underlying22 hiu hu0 hu1 hu2 rfl (by decide) _ 0 [] rfl ad 0 0 rfl ((nums ([] : List Nat)).map (Value.int .u8)) hoE hsrc hone (by unfold maxLen; omega) (by omega) hszE ?_)
          intro vq wq hoq hgq _
          have cq : Chg (fun _ => False) wr wq := HCE.out.grown hgq (fun k e => .inr (by cases e; exact Nat.le_refl _))
          have hoq' : wq.ownsRow wr.heap.size 5 1 vq 0 (ins .u8 (nums ([] : List Nat))) := by simpa [ins_map] using hoq
          obtain ⟨aq, dq, hvq⟩ := form1 hoq'
          subst hvq
          have HWq : Hid (Win wq w0.heap.size a v n (bs.take c)) := S.new HW.out cq
          have HBq : Hid (Row8 wq aq 0 dq (nums ([] : List Nat))) := row8_own hoq'
          have HMq : Hid (0 ≤ dq) := own_cap hoq'
          have HAq : Hid (∀ x, aq = some x → ¬ Foot a v x.block) := fun x e f => by
            subst e
            have h1 := (S.lt HW.out _ f).2
            have h2 := (hoq'.lt x.block rfl).1
            omega
          have HCq : Hid (Chg (fun _ => False) wr wq) := cq
          have HZq : Hid (w0.heap.size ≤ wq.heap.size) := Nat.le_trans HC.out.size cq.size
          clear hoq hgq cq hoq' hoE hsrc hone hszE HCE
          go_wp2_with fail
          refine (S.put w0.heap.size a v n (bs.take c) aq 0 dq ([] : List Nat) wq HWq.out HZq.out HBq.out hdg HAq.out HMq.out (by omega) (by rw [List.length_take]; have := HBL.out; omega)).mono ?_
          rintro z w4 ⟨rfl, v4, hwq, cq, mq⟩
          have HP4 : Hid (Win w4 w0.heap.size a v4 n ((bs.take c) ++ ([] : List Nat)) ∧ Chg (Foot a v) wr w4 ∧ Moved wr v v4) := ⟨hwq, (HCq.out.mono (fun _ f => f.elim)).trans cq (fun _ f => .inl f), moved_from HCq.out.size mq⟩
          clear hwq cq mq HWq HBq HAq HCq HZq HMq
          have HW4 : Hid (Win w4 w0.heap.size a v4 n bs) := by have h9 := HP4.out.1; rw [HXS.out] at h9; exact h9
          have HC4 : Hid (Chg (fun _ => False) w0 w4) := HC.out.trans HP4.out.2.1 (fun z f => .inr (S.lt HW.out z f).1)
          clear HP4 HW HC HXS hdg
          go_wp2_with fail
          go_meet
          exact ⟨v4, HW4.out, HC4.out⟩
        · skip
          obtain ⟨x, rfl⟩ : ∃ x, ad = some x := by
            rcases HR0.out.2 with ⟨_, h1, h2⟩ | ⟨x, h1, _⟩
            · exact absurd (show c = t by omega) hct
            · exact ⟨x, h1⟩
          have hrow : Row8 wr (some (x.add t)) (L - t) (c - t) (nums ((bs.drop t).take (L - t))) := by
            have h9 := row8_cut (Bk.row8_chg HR0.out HC.out) hLc t (L - t) (c - t) (by omega) (by omega)
            rw [nums_cut, if_neg hct] at h9
            exact h9
          have hdg := Dig.part hdig t (L - t)
          have HXS : Hid (bs.take t ++ (bs.drop t).take (L - t) = bs) := by show _ = _; rw [take_more, show t + (L - t) = L by omega, List.take_of_length_le (by rw [HBL.out]; exact Nat.le_refl _)]
          have cE := chg_one wr (.cells #[] 5)
          have hoE := own_empty wr 5
          have hsrc := (Bk.row8_chg hrow cE).src
          have hone := one8 ((bs.drop t).take (L - t))
          have hszE : wr.heap.size ≤ (wr.alloc (.cells #[] 5)).heap.size := cE.size
          have HCE : Hid (Chg (fun _ => False) wr (wr.alloc (.cells #[] 5))) := cE
          clear cE hrow
          go_wp2_with (at_builtin; refine wpList_append_moved rfl _ _ 22 rfl wr.heap.size 5 iu (.int .u8 0) 1 1 Try.underlying22 hiu hu0 hu1 hu2 rfl (by decide) _ 0 [] rfl (some (x.add t)) (L - t) (c - t) rfl ((nums ((bs.drop t).take (L - t))).map (Value.int .u8)) hoE hsrc hone (by unfold maxLen; omega) (by omega) hszE ?_)
          intro vq wq hoq hgq _
          have cq : Chg (fun _ => False) wr wq := HCE.out.grown hgq (fun k e => .inr (by cases e; exact Nat.le_refl _))
          have hoq' : wq.ownsRow wr.heap.size 5 1 vq (L - t) (ins .u8 (nums ((bs.drop t).take (L - t)))) := by simpa [ins_map] using hoq
          obtain ⟨aq, dq, hvq⟩ := form1 hoq'
          subst hvq
          have HWq : Hid (Win wq w0.heap.size a v n (bs.take t)) := S.new HW.out cq
          have HBq : Hid (Row8 wq aq (L - t) dq (nums ((bs.drop t).take (L - t)))) := row8_own hoq'
          have HMq : Hid ((L - t) ≤ dq) := own_cap hoq'
          have HAq : Hid (∀ x, aq = some x → ¬ Foot a v x.block) := fun x e f => by
            subst e
            have h1 := (S.lt HW.out _ f).2
            have h2 := (hoq'.lt x.block rfl).1
            omega
          have HCq : Hid (Chg (fun _ => False) wr wq) := cq
          have HZq : Hid (w0.heap.size ≤ wq.heap.size) := Nat.le_trans HC.out.size cq.size
          clear hoq hgq cq hoq' hoE hsrc hone hszE HCE
          go_wp2_with fail
          refine (S.put w0.heap.size a v n (bs.take t) aq (L - t) dq ((bs.drop t).take (L - t)) wq HWq.out HZq.out HBq.out hdg HAq.out HMq.out (by omega) (by rw [List.length_take]; have := HBL.out; omega)).mono ?_
          rintro z w4 ⟨rfl, v4, hwq, cq, mq⟩
          have HP4 : Hid (Win w4 w0.heap.size a v4 n ((bs.take t) ++ ((bs.drop t).take (L - t))) ∧ Chg (Foot a v) wr w4 ∧ Moved wr v v4) := ⟨hwq, (HCq.out.mono (fun _ f => f.elim)).trans cq (fun _ f => .inl f), moved_from HCq.out.size mq⟩
          clear hwq cq mq HWq HBq HAq HCq HZq HMq
          have HW4 : Hid (Win w4 w0.heap.size a v4 n bs) := by have h9 := HP4.out.1; rw [HXS.out] at h9; exact h9
          have HC4 : Hid (Chg (fun _ => False) w0 w4) := HC.out.trans HP4.out.2.1 (fun z f => .inr (S.lt HW.out z f).1)
          clear HP4 HW HC HXS hdg
          go_wp2_with fail
          go_meet
          exact ⟨v4, HW4.out, HC4.out⟩
      case rest =>
        clear HW HC
        obtain ⟨v, HW, HC⟩ := hcut
        have cE := chg_one wc (.cells #[] 5)
        have hoE := own_empty wc 5
        have hsrc := (Bk.row8_chg HR0.out (chg_then HC.out cE)).src
        have hone := one8 bs
        have hszE : wc.heap.size ≤ (wc.alloc (.cells #[] 5)).heap.size := cE.size
        have HCE : Hid (Chg (fun _ => False) wc (wc.alloc (.cells #[] 5))) := cE
        clear cE
        go_wp2_with (at_builtin; refine wpList_append_moved rfl _ _ 22 rfl wc.heap.size 5 iu (.int .u8 0) 1 1 Try.underlying22 hiu hu0 hu1 hu2 rfl (by decide) _ 0 [] rfl ad L c rfl ((nums bs).map (Value.int .u8)) hoE hsrc hone (by unfold maxLen; omega) (by omega) hszE ?_)
        intro vq wq hoq hgq _
        have cq : Chg (fun _ => False) wc wq := HCE.out.grown hgq (fun k e => .inr (by cases e; exact Nat.le_refl _))
        have hoq' : wq.ownsRow wc.heap.size 5 1 vq L (ins .u8 (nums bs)) := by simpa [ins_map] using hoq
        obtain ⟨aq, dq, hvq⟩ := form1 hoq'
        subst hvq
        have HW1 : Hid (Win wq w0.heap.size a v n bs) := S.new HW.out cq
        have HC1 : Hid (Chg (fun _ => False) w0 wq) := chg_then HC.out cq
        have HA1 : Hid (wq.ownsRow w0.heap.size 5 1 (.slice aq L dq) L (ins .u8 (nums bs))) := owns_base hoq' HC.out.size
        have HP1 : Hid (∀ g, (Value.slice aq L dq).ownBlock = some g → ¬ Foot a v g) := fun g e f => by
          have h1 := (S.lt HW.out _ f).2
          have h2 := (hoq'.lt g e).1
          omega
        clear hoq hgq cq hoq' hoE hsrc hone hszE HCE HW HC
        go_upto_region 16 with fail
        go_cut [16, 17] (fun cv ev wx => ∃ v, Hid (Chg (fun _ => False) w0 wx) ∧ Hid (wx.ownsRow w0.heap.size 5 1 (.slice aq L dq) L (ins .u8 (nums bs))) ∧ Hid (∀ g, (Value.slice aq L dq).ownBlock = some g → ¬ Foot a v g) ∧ ((¬ Cpy n bs dist m ∧ cv = .slice none 0 0 ∧ ev = .int .i64 7 ∧ Hid (Win wx w0.heap.size a v n bs)) ∨ (Cpy n bs dist m ∧ ∃ ca cc, cv = .slice ca m.toNat cc ∧ ev = .int .i64 0 ∧ Hid (Win wx w0.heap.size a v n (bs ++ copyL dist.toNat bs m.toNat)) ∧ Hid (wx.ownsRow w0.heap.size 5 1 cv m.toNat (ins .u8 (nums (copyL dist.toNat bs m.toNat)))) ∧ Hid (∀ g, cv.ownBlock = some g → ¬ Foot a v g) ∧ Hid (∀ g, (Value.slice aq L dq).ownBlock = some g → cv.ownBlock ≠ some g))))
        case first =>
          go_wp2_with fail
          refine (S.copy w0.heap.size a v n bs dist m _ HW1.out HC1.out.size hdi hm (by have := HBL.out; omega)).mono ?_
          rintro z w3 (⟨hno, rfl, c3⟩ | ⟨hyes, ov, v3, rfl, hw3, ho3, hap3, c3, m3⟩)
          · have HN3 : Hid (¬ Cpy n bs dist m) := hno
            have HC3 : Hid (Chg (fun _ => False) wq w3) := c3
            clear hno c3
            go_wp2_with fail
            go_meet
            exact ⟨v, chg_then HC1.out HC3.out, ownsRow_keep HA1.out HC3.out (fun _ _ f => f), HP1.out, .inl ⟨HN3.out, rfl, rfl, S.new HW1.out HC3.out⟩⟩
          · obtain ⟨ca, cc, hov⟩ := form1 ho3
            subst hov
            have HG : Hid (Cpy n bs dist m ∧ Win w3 w0.heap.size a v3 n (bs ++ copyL dist.toNat bs m.toNat) ∧ w3.ownsRow wq.heap.size 5 1 (.slice ca m.toNat cc) m.toNat (ins .u8 (nums (copyL dist.toNat bs m.toNat))) ∧ (∀ g, (Value.slice ca m.toNat cc).ownBlock = some g → ¬ Foot a v3 g) ∧ Chg (Foot a v) wq w3 ∧ Moved wq v v3) := ⟨hyes, hw3, ho3, hap3, c3, m3⟩
            clear hyes hw3 ho3 hap3 c3 m3
            go_wp2_with fail
            go_meet
            obtain ⟨q1, q2, q3, q4, q5, q6⟩ := HG.out
            refine ⟨v3, HC1.out.trans q5 (fun z f => .inr (S.lt HW1.out z f).1), ownsRow_keep HA1.out q5 (fun g e f => HP1.out g e f), fun g e f => ?_, .inr ⟨q1, ca, cc, rfl, rfl, q2, owns_base q3 HC1.out.size, q4, fun g e f => ?_⟩⟩
            · rcases q6.foot a g f with h | h
              · exact HP1.out g e h
              · have := (HA1.out.lt g e).2; omega
            · have h1 := (HA1.out.lt g e).2; have h2 := (q3.lt g f).1; omega
        case rest =>
          clear HW1 HC1 HA1 HP1
          obtain ⟨v, HC, HA, HP, hcase⟩ := hcut
          have HCASE : Hid _ := hcase
          clear hcase
          go_upto_region 17 with fail
          go_cut [92] (fun bv wx => bv = .bool (!decide (Cpy n bs dist m)) ∧ Hid (Chg (fun _ => False) wc wx))
          case first =>
            obtain ⟨hdi1, hdi2⟩ := hdi
            obtain ⟨hm1, hm2⟩ := hm
            rcases HCASE.out with ⟨hno, rfl, rfl, hw⟩ | ⟨hyes, ca, cc, rfl, rfl, hw, ho, hap, hap2⟩
            · have HNO : Hid ((!decide (Cpy n bs dist m)) = true) := by show _ = _; rw [decide_eq_false hno]; rfl
              obtain ⟨F, hF⟩ : ∃ F, fullN n bs = F := ⟨_, rfl⟩
              have HFU : Hid _ := fullS S hw.out
              rw [hF] at HFU
              by_cases d0 : dist < 1
              · have e0 : decide (dist < 1) = true := by simp; omega
                clear hno hw
                go_wp2_with fail
                go_meet
                exact ⟨by rw [HNO.out], Chg.refl _ _⟩
              have e0 : decide (dist < 1) = false := by simp; omega
              by_cases d1 : (F : Int) < dist
              · have e1 : decide ((F : Int) < dist) = true := by simp; omega
                clear hno hw
                go_wp2_with fail
                refine Calls.mono HFU.out ?_
                rintro z w3 ⟨rfl, c3⟩
                have HC3 : Hid (Chg (fun _ => False) wc w3) := c3
                clear c3
                go_wp2_with fail
                go_meet
                exact ⟨by rw [HNO.out], HC3.out⟩
              have e1 : decide ((F : Int) < dist) = false := by simp; omega
              by_cases d2 : m < 0
              · have e2 : decide (m < 0) = true := by simp; omega
                clear hno hw
                go_wp2_with fail
                refine Calls.mono HFU.out ?_
                rintro z w3 ⟨rfl, c3⟩
                have HC3 : Hid (Chg (fun _ => False) wc w3) := c3
                clear c3
                go_wp2_with fail
                go_meet
                exact ⟨by rw [HNO.out], HC3.out⟩
              have e2 : decide (m < 0) = false := by simp; omega
              have d3 : 273 < m := by
                apply Int.not_le.1
                intro f
                exact hno ⟨⟨by omega, by rw [hF]; omega⟩, by omega, f⟩
              have e3 : decide (273 < m) = true := by simp; omega
              clear hno hw
              go_wp2_with fail
              refine Calls.mono HFU.out ?_
              rintro z w3 ⟨rfl, c3⟩
              have HC3 : Hid (Chg (fun _ => False) wc w3) := c3
              clear c3
              go_wp2_with fail
              go_meet
              exact ⟨by rw [HNO.out], HC3.out⟩
            · have HNO : Hid ((!decide (Cpy n bs dist m)) = false) := by show _ = _; rw [decide_eq_true hyes]; rfl
              obtain ⟨F, hF⟩ : ∃ F, fullN n (bs ++ copyL dist.toNat bs m.toNat) = F := ⟨_, rfl⟩
              have HFU : Hid _ := fullS S hw.out
              rw [hF] at HFU
              have hdF : dist ≤ (F : Int) := by
                have h1 := hyes.1.2
                rw [← hF]
                unfold fullN at h1 ⊢
                rw [List.length_append]
                omega
              have e0 : decide (dist < 1) = false := by have := hyes.1.1; simp; omega
              have e1 : decide ((F : Int) < dist) = false := by simp; omega
              have e2 : decide (m < 0) = false := by have := hyes.2.1; simp; omega
              have e3 : decide (273 < m) = false := by have := hyes.2.2; simp; omega
              clear hyes hw ho hap hap2 hF
              go_wp2_with fail
              refine Calls.mono HFU.out ?_
              rintro z w3 ⟨rfl, c3⟩
              have HC3 : Hid (Chg (fun _ => False) wc w3) := c3
              clear c3
              go_wp2_with fail
              go_meet
              exact ⟨by rw [HNO.out], HC3.out⟩
          case rest =>
            obtain ⟨hbv, HCX⟩ := hcut
            subst hbv
            go_upto_if 92 with fail
            go_cut [15] (fun av wx => ∃ v ys E aE dE, av = .slice aE E dE ∧ Hid (ys.length = E) ∧ E ≤ 140737488355328 ∧ Hid (Win wx w0.heap.size a v n ys) ∧ Hid (wx.ownsRow w0.heap.size 5 1 av E (ins .u8 (nums ys))) ∧ Hid (Chg (fun _ => False) w0 wx))
            case first =>
              rcases HCASE.out with ⟨hno, rfl, rfl, hw⟩ | ⟨hyes, ca, cc, rfl, rfl, hw, ho, hap, hap2⟩
              · have HW9 : Hid (Win wc w0.heap.size a v n bs) := S.new hw.out HCX.out
                have HA9 : Hid (wc.ownsRow w0.heap.size 5 1 (.slice aq L dq) L (ins .u8 (nums bs))) := ownsRow_keep HA.out HCX.out (fun _ _ f => f)
                have HC9 : Hid (Chg (fun _ => False) w0 wc) := chg_then HC.out HCX.out
                have hbt : (!decide (Cpy n bs dist m)) = true := by rw [decide_eq_false hno]; rfl
                rw [hbt]
                clear hno hw hbt
                go_wp2_with fail
                go_meet
                exact ⟨v, bs, L, aq, dq, rfl, HBL.out, by omega, HW9.out, HA9.out, HC9.out⟩
              · obtain ⟨M, hM⟩ : ∃ M, m.toNat = M := ⟨_, rfl⟩
                have hMi : (M : Int) = m := by have := hyes.2.1; omega
                have hM9 : M ≤ 273 := by have := hyes.2.2; omega
                subst hMi
                obtain ⟨xs, hxs⟩ : ∃ xs, copyL dist.toNat bs M = xs := ⟨_, rfl⟩
                rw [hM, hxs] at hw ho
                rw [hM] at hap hap2 ⊢
                have hxl : xs.length = M := by rw [← hxs, copyL_len]
                have HXL : Hid (xs.length = M) := hxl
                have hw2 := S.new hw.out HCX.out
                have hA2 := ownsRow_keep HA.out HCX.out (fun _ _ f => f)
                have ho2 := ownsRow_keep ho.out HCX.out (fun _ _ f => f)
                have HW9 : Hid (Win wc w0.heap.size a v n (bs ++ xs)) := hw2
                have HC9 : Hid (Chg (fun _ => False) w0 wc) := chg_then HC.out HCX.out
                have hbt : (!decide (Cpy n bs dist (M : Int))) = false := by rw [decide_eq_true hyes]; rfl
                rw [hbt]
                have hsrc := own_from ho2
                have hone := ins_one .u8 (nums xs)
                have hsz9 : w0.heap.size ≤ wc.heap.size := HC9.out.size
                clear hyes hw ho hap hap2 hbt hxs hw2 hM
                go_wp2_with (at_builtin; refine wpList_append_moved rfl _ _ 22 rfl w0.heap.size 5 iu (.int .u8 0) 1 1 Try.underlying22 hiu hu0 hu1 hu2 rfl (by decide) _ L (ins .u8 (nums bs)) rfl ca M cc rfl (ins .u8 (nums xs)) hA2 hsrc hone (by unfold maxLen; omega) (by omega) hsz9 ?_)
                intro v9 w9 ho9 hg9 _
                obtain ⟨a9, d9, hv9⟩ := form1 ho9
                subst hv9
                have c9 : Chg (fun z => (Value.slice aq L dq).ownBlock = some z) wc w9 := (Chg.refl _ wc).grown hg9 (fun z e => .inl e)
                have HA9 : Hid (w9.ownsRow w0.heap.size 5 1 (.slice a9 (L + M) d9) (L + M) (ins .u8 (nums (bs ++ xs)))) := own_app ho9
                have HW10 : Hid (Win w9 w0.heap.size a v n (bs ++ xs)) := S.keep HW9.out c9 (fun z f g => HP.out z g f)
                have HC10 : Hid (Chg (fun _ => False) w0 w9) := HC9.out.trans c9 (fun z f => .inr (hA2.lt z f).1)
                clear ho9 hg9 c9 hA2 ho2 hsrc hone hsz9
                go_wp2_with fail
                go_meet
                exact ⟨v, bs ++ xs, L + M, a9, d9, rfl, by show _ = _; rw [List.length_append, HBL.out, HXL.out], by omega, HW10.out, HA9.out, HC10.out⟩
            case rest =>
              clear HCASE HA HP HC HCX
              obtain ⟨v, ys, E, aE, dE, rfl, HYE, hE9, HW, HA, HC⟩ := hcut
              generalize wc = wd at *
              obtain ⟨F, hF⟩ : ∃ F, fullN n ys = F := ⟨_, rfl⟩
              have HF : Hid (fullN n ys = F) := hF
              have hFmin : min E n = F := by rw [← hF]; unfold fullN; rw [HYE.out]
              have HFE : Hid (F ≤ E ∧ F ≤ 2000) := by show _ ∧ _; rw [← hFmin]; have := HN.out; omega
              clear hF
              go_upto_region 23 with fail
              go_cut [18] (fun fv wx => fv = .int .i64 (F : Int) ∧ Hid (Win wx w0.heap.size a v n ys) ∧ Hid (wx.ownsRow w0.heap.size 5 1 (.slice aE E dE) E (ins .u8 (nums ys))) ∧ Hid (Chg (fun _ => False) w0 wx))
              case first =>
                go_wp2_with fail
                refine (sizeS S HW.out).mono ?_
                rintro z w3 ⟨rfl, c3⟩
                have HW3 : Hid (Win w3 w0.heap.size a v n ys) := S.new HW.out c3
                have HA3 : Hid (w3.ownsRow w0.heap.size 5 1 (.slice aE E dE) E (ins .u8 (nums ys))) := ownsRow_keep HA.out c3 (fun _ _ f => f)
                have HC3 : Hid (Chg (fun _ => False) w0 w3) := chg_then HC.out c3
                clear c3 HW HA HC
                by_cases hnE : n < E
                · have e1 : (n : Int) = (F : Int) := by omega
                  have hd : decide ((n : Int) < (E : Int)) = true := by simp; omega
                  have HE1 : Hid ((n : Int) = (F : Int)) := e1
                  clear e1 hFmin
                  go_wp2_with fail
                  go_meet
                  exact ⟨by rw [HE1.out], HW3.out, HA3.out, HC3.out⟩
                · have e1 : (E : Int) = (F : Int) := by omega
                  have hd : decide ((n : Int) < (E : Int)) = false := by simp; omega
                  have HE1 : Hid ((E : Int) = (F : Int)) := e1
                  clear e1 hFmin
                  go_wp2_with fail
                  go_meet
                  exact ⟨by rw [HE1.out], HW3.out, HA3.out, HC3.out⟩
              case rest =>
                clear HW HA HC hFmin
                obtain ⟨rfl, HW3, HA3, HC3⟩ := hcut
                go_wp2_with fail
                refine (posS S HW3.out).mono ?_
                rintro z w4 ⟨rfl, c4⟩
                have HW4 : Hid (Win w4 w0.heap.size a v n ys) := S.new HW3.out c4
                have HA4 : Hid (w4.ownsRow w0.heap.size 5 1 (.slice aE E dE) E (ins .u8 (nums ys))) := ownsRow_keep HA3.out c4 (fun _ _ f => f)
                have HC4 : Hid (Chg (fun _ => False) w0 w4) := chg_then HC3.out c4
                rw [HYE.out]
                clear c4 HW3 HA3 HC3
                go_wp2_with fail
                refine (fullS S HW4.out).mono ?_
                rintro z w5 ⟨rfl, c5⟩
                have HW5 : Hid (Win w5 w0.heap.size a v n ys) := S.new HW4.out c5
                have HA5 : Hid (w5.ownsRow w0.heap.size 5 1 (.slice aE E dE) E (ins .u8 (nums ys))) := ownsRow_keep HA4.out c5 (fun _ _ f => f)
                have HC5 : Hid (Chg (fun _ => False) w0 w5) := chg_then HC4.out c5
                rw [HF.out]
                clear c5 HW4 HA4 HC4
                go_wp2_with fail
                go_loopw [19] (fun dv wr => ∃ d : Nat, 1 ≤ d ∧ d ≤ F + 1 ∧ dv = .int .i64 (d : Int) ∧ Hid (Win wr w0.heap.size a v n ys) ∧ Hid (wr.ownsRow w0.heap.size 5 1 (.slice aE E dE) E (ins .u8 (nums ys))) ∧ Hid (Chg (fun _ => False) w0 wr)) (fun dv _ => F + 1 - (intOf dv).toNat)
                case atStart => exact ⟨1, Nat.le_refl _, by omega, rfl, HW5.out, HA5.out, HC5.out⟩
                case round =>
                  clear HW5 HA5 HC5
                  obtain ⟨d, hd1, hd2, rfl, HW, HA, HC⟩ := hrel
                  have hF9 : (F : Int) ≤ 2000 := by have := HFE.out; omega
                  by_cases hle : d ≤ F
                  · have hdd : decide ((d : Int) ≤ (F : Int)) = true := by simp; omega
                    have hin : Inw n ys (d : Int) := ⟨by omega, by rw [HF.out]; omega⟩
                    have HIN2 : Hid (Inw n ys (d : Int)) := hin
                    obtain ⟨b, hb⟩ : ∃ b, backB ys d = b := ⟨_, rfl⟩
                    have hbk := backB_at (bs := ys) hd1 (by have := HFE.out; rw [HYE.out]; omega)
                    obtain ⟨K, hK⟩ : ∃ K, K = E - d := ⟨_, rfl⟩
                    rw [hb, HYE.out, ← hK] at hbk
                    have hki : (E : Int) - (d : Int) = (K : Int) := by have := HFE.out; omega
                    have hkl : K < E := by have := HFE.out; omega
                    have HBK : Hid (ys[K]? = some b) := hbk
                    have HB : Hid (backB ys d = b) := hb
                    clear hin hb hbk hK
                    go_wp2_with fail
                    refine (S.last w0.heap.size a v n ys (d : Int) _ HW.out (by have := HYE.out; omega) ⟨by omega, by omega⟩).mono ?_
                    rintro z w6 ⟨h6 | ⟨_, rfl⟩, c6⟩
                    · exact absurd HIN2.out h6.1
                    rw [show ((d : Int)).toNat = d from Int.toNat_natCast d, HB.out]
                    have HW6 : Hid (Win w6 w0.heap.size a v n ys) := S.new HW.out c6
                    have HA6 : Hid (w6.ownsRow w0.heap.size 5 1 (.slice aE E dE) E (ins .u8 (nums ys))) := ownsRow_keep HA.out c6 (fun _ _ f => f)
                    have HC6 : Hid (Chg (fun _ => False) w0 w6) := chg_then HC.out c6
                    obtain ⟨x, rfl, hcell⟩ := row8_cell (row8_own HA6.out) HBK.out
                    clear c6 HW HA HC
                    go_wp2_with fail
                    go_roundw
                    case rel => exact ⟨d + 1, by omega, by omega, by go_num, HW6.out, HA6.out, HC6.out⟩
                    case measure => simp [intOf]; omega
                  · have hdF : d = F + 1 := by omega
                    have hdd : decide ((d : Int) ≤ (F : Int)) = false := by simp; omega
                    have HNI : Hid (¬ Inw n ys ((F : Int) + 1)) := fun f => by have := f.2; rw [HF.out] at this; omega
                    have HNZ : Hid (¬ Inw n ys 0) := fun f => by have := f.1; omega
                    clear hdF
                    go_wp2_with fail
                    refine (S.last w0.heap.size a v n ys ((F : Int) + 1) _ HW.out (by have := HYE.out; omega) ⟨by omega, by omega⟩).mono ?_
                    rintro z w6 ⟨⟨_, rfl⟩ | h6, c6⟩
                    rotate_left
                    · exact absurd h6.1 HNI.out
                    have HW6 : Hid (Win w6 w0.heap.size a v n ys) := S.new HW.out c6
                    have HC6 : Hid (Chg (fun _ => False) w0 w6) := chg_then HC.out c6
                    clear c6 HW HA HC
                    go_wp2_with fail
                    refine (S.last w0.heap.size a v n ys 0 _ HW6.out (by have := HYE.out; omega) ⟨by omega, by omega⟩).mono ?_
                    rintro z w7 ⟨⟨_, rfl⟩ | h7, c7⟩
                    rotate_left
                    · exact absurd h7.1 HNZ.out
                    have HC7 : Hid (Chg (fun _ => False) w0 w7) := chg_then HC6.out c7
                    clear c7 HW6 HC6
                    go_wp2
                    go_ret
                    exact ⟨rfl, HC7.out⟩
end Go.Proofs.Ythgibmhbgfjkcaa
