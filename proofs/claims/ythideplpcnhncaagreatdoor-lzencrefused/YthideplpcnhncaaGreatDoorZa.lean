/- Of no statement by itself: Za (without blanks and remarks). -/
import Derived.Test.YthideplpcnhncaaGreatDoorB26Jp
namespace Go.Proofs.YthideplpcnhncaaGreatDoor
open Go.RowKit
open St12 Sy13
set_option linter.unusedVariables false
set_option linter.unusedSimpArgs false
variable {Win:World→Nat→Nat→Value→Nat→List Nat→Prop} {Tab:World→Prop}
set_option maxHeartbeats 4000000 in
set_option maxRecDepth 100000 in
theorem tlay_match (S:WinSpec Win)(wb:World)(r:Nat)(v:Value)(n:Nat)(bs:List Nat)(sn a b c d yb yl yd:Int)(hs:(⟨sn,a,b,c,d⟩:Stt).I)(hy:(⟨2,yb,yl,yd⟩:Sym).I)(hf:formed ⟨2,yb,yl,yd⟩=0)(w0:World)(hB:wb.heap.size≤w0.heap.size)(h:Win w0 wb.heap.size r v n bs)(hl:bs.length+273≤1152921504606846976):Calls Tryz.prog 80 #[.pointer (some ⟨r,0,none⟩),.agg #[.int .i64 sn,.int .i64 a,.int .i64 b,.int .i64 c,.int .i64 d],.agg #[.int .i64 2,.int .u8 yb,.int .i64 yl,.int .i64 yd]] w0 fun e w'=> ∃ov v',e= .returned (.tuple #[ov,.int .i64 (if inwD n bs yd then 0 else 7)])∧Made Win wb.heap.size w0.heap.size r n (bs++(if inwD n bs yd then(copyL (yd:Int).toNat bs (yl:Int).toNat)else [])) (if inwD n bs yd then(copyL (yd:Int).toNat bs (yl:Int).toNat)else []) ov v' w'∧Chg (Foot r v) w0 w'∧Moved w0 v v':=by
 have HS1:Hid (((w0.alloc (.cells #[.int .i64 sn,.int .i64 a,.int .i64 b,.int .i64 c,.int .i64 d] 88)).alloc (.cells #[.int .i64 2,.int .u8 yb,.int .i64 yl,.int .i64 yd] 34)).heap[w0.heap.size]?=some (.cells #[.int .i64 sn,.int .i64 a,.int .i64 b,.int .i64 c,.int .i64 d] 88 (0,0))):=(Below.heap_alloc _ _ _ (by simp)).trans (heap_alloc_last w0 _)
 have HY1:Hid (((w0.alloc (.cells #[.int .i64 sn,.int .i64 a,.int .i64 b,.int .i64 c,.int .i64 d] 88)).alloc (.cells #[.int .i64 2,.int .u8 yb,.int .i64 yl,.int .i64 yd] 34)).heap[w0.heap.size+1]?=some (.cells #[.int .i64 2,.int .u8 yb,.int .i64 yl,.int .i64 yd] 34 (0,0))):=by
  have:=heap_alloc_last (w0.alloc (.cells #[.int .i64 sn,.int .i64 a,.int .i64 b,.int .i64 c,.int .i64 d] 88)) (.cells #[.int .i64 2,.int .u8 yb,.int .i64 yl,.int .i64 yd] 34)
  rw [World.size_alloc]at this
  exact this
 have HC1:Hid (Chg (fun _=>False) w0 ((w0.alloc (.cells #[.int .i64 sn,.int .i64 a,.int .i64 b,.int .i64 c,.int .i64 d] 88)).alloc (.cells #[.int .i64 2,.int .u8 yb,.int .i64 yl,.int .i64 yd] 34))):=chg_then (chg_one _ _) (chg_one _ _)
 have HLR:Hid (∀z,Foot r v z→z<w0.heap.size):=fun z f=>(S.lt h z f).2
 have HRW:Hid (Win w0 wb.heap.size r v n bs):=h
 have HRW1:Hid (Win ((w0.alloc (.cells #[.int .i64 sn,.int .i64 a,.int .i64 b,.int .i64 c,.int .i64 d] 88)).alloc (.cells #[.int .i64 2,.int .u8 yb,.int .i64 yl,.int .i64 yd] 34)) wb.heap.size r v n bs):=S.new h HC1.out
 have HBB:Hid (wb.heap.size≤w0.heap.size):=hB
 have hk:=formed_kind hf
 simp at hk
 have HSZ:Hid ((0:Int)≤yl∧(yl:Int)≤273):=by constructor<;>omega
 have HI:Hid (I64 yd∧I64 yl):=⟨hy.d,by have:=HSZ.out;unfold I64;omega⟩
 have HLQ:Hid (∀w_,Calls Tryz.prog 127 #[.agg #[.int .i64 2,.int .u8 yb,.int .i64 yl,.int .i64 yd]] w_ fun e w'=>e= .returned (.int .i64 yl)∧Chg (fun _=>False) w_ w'):=fun w_=>by
  have h9:=tlen_q 2 yb yl yd hf w_
  rw [show sizeA ⟨2,yb,yl,yd⟩=yl from by unfold sizeA;rw [if_neg (by simp [hf])];rfl]at h9
  exact h9
 obtain⟨s0,s1,s2,s3,s4⟩:=cells5 HS1.out
 obtain⟨y0,y1,y2,y3⟩:=cells4y HY1.out
 clear hs hy hf hB h hk
 go_enter Tryz.func80,Tryz.ntmps80
 go_wp2_with fail
 generalize (w0.alloc (.cells #[.int .i64 sn,.int .i64 a,.int .i64 b,.int .i64 c,.int .i64 d] 88)).alloc (.cells #[.int .i64 2,.int .u8 yb,.int .i64 yl,.int .i64 yd] 34)=W1 at*
 clear s0 s1 s2 s3 s4 y0 y1 y2 y3
 by_cases hi:inwD n bs yd
 ·have HIN:Hid (inwD n bs yd):=hi
  clear hi
  refine wp_region_setM (mk:=fun u=> #[_,_,_,_,_,_,u 6,_,_,_,_,_,u 12,u 13,u 14,u 15,u 16,u 17,u 18,u 19,_,_,_,_,_,_,_,_,_,_,_,_,_,_,_,_,_,_,_,_,_,_,_,_,_,_,_,_,_,_,_,_]) (G:=lookG [(12,.pointer (some ⟨r,0,none⟩)),(13,.pointer (some ⟨w0.heap.size+1,3,none⟩)),(14,.int .i64 yd),(15,.agg #[.int .i64 2,.int .u8 yb,.int .i64 yl,.int .i64 yd]),(16,.int .i64 yl)]) (J:=fun L_ u ww=>Chg (Foot r v) W1 ww∧((L_ 5=false∧L_ 6=false∧L_ 7=false∧L_ 8=false∧Chg (fun _=>False) W1 ww)∨(L_ 4=true∧L_ 5=true∧ ∃ov v',u 17= .tuple #[ov,.int .i64 0]∧(L_ 6=true→u 18=ov)∧(L_ 7=true→u 19= .int .i64 0)∧(L_ 8=true→u 6=ov)∧(Made Win wb.heap.size w0.heap.size r n (bs++(copyL (yd:Int).toNat bs (yl:Int).toNat)) (copyL (yd:Int).toNat bs (yl:Int).toNat) ov v' ww∧Moved w0 v v')))) [4,5,6,7,8] ([]) (fun t=>if t=6 then .slice none 0 0 else if t=7 then .int .i64 0 else undef) rfl (by kernel_rfl) 9 _ rfl rfl (by kernel_rfl) (by kernel_rfl) ?_ ?_ ?_ ?_ ?_
  ·repeat (refine⟨fun _ _=>rfl,?_⟩)
   exact trivial
  ·intro L_ L2 u u2 ww h hj
   have l4_:L_ 4=L2 4:=(h 4 (by decide)).1
   have l5_:L_ 5=L2 5:=(h 5 (by decide)).1
   have e5_:u 17=u2 17:=(h 5 (by decide)).2
   have l6_:L_ 6=L2 6:=(h 6 (by decide)).1
   have e6_:u 18=u2 18:=(h 6 (by decide)).2
   have l7_:L_ 7=L2 7:=(h 7 (by decide)).1
   have e7_:u 19=u2 19:=(h 7 (by decide)).2
   have l8_:L_ 8=L2 8:=(h 8 (by decide)).1
   have e8_:u 6=u2 6:=(h 8 (by decide)).2
   show _∧_
   rw [←l4_,←l5_,←e5_,←l6_,←e6_,←l7_,←e7_,←l8_,←e8_]
   exact hj
  ·exact⟨(Chg.refl _ W1).drew,.inl ⟨rfl,rfl,rfl,rfl,(Chg.refl _ W1).drew⟩⟩
  ·refine⟨?_,?_,?_,?_,?_,?_,?_,?_,?_,trivial⟩
   ·show StepRS _ _ _ _ _ _ _ _
    unfold StepRS
    intro L_ u w_ hj hd K hK
    clear hd
    have hc:=hj.1
    clear hj hc
    go_simp
    exact hK.out _ rfl
   ·show StepRS _ _ _ _ _ _ _ _
    unfold StepRS
    intro L_ u w_ hj hd K hK
    clear hd
    have hc:=hj.1
    clear hj hc
    go_simp
    exact hK.out _ rfl
   ·show StepRS _ _ _ _ _ _ _ _
    unfold StepRS
    intro L_ u w_ hj hd K hK
    have h13:u 13= .pointer (some ⟨w0.heap.size+1,3,none⟩):=hd.get 1 (by kernel_rfl)
    clear hd
    simp only [h13]at hK
    have hc:=hj.1
    obtain⟨x0,x1,x2,x3⟩:=cells4y (blk_keep HY1.out hc (fun f=>by have:=HLR.out _ f;omega))
    clear hj hc
    go_simp
    exact hK.out _ rfl
   ·show StepRS _ _ _ _ _ _ _ _
    unfold StepRS
    intro L_ u w_ hj hd K hK
    clear hd
    have hc:=hj.1
    obtain⟨x0,x1,x2,x3⟩:=cells4y (blk_keep HY1.out hc (fun f=>by have:=HLR.out _ f;omega))
    clear hj hc
    go_simp
    exact hK.out _ rfl
   ·show StepWS _ _ _ _ _ _ _ _ _
    unfold StepWS
    intro L_ u w_ hj hli hwt hd K hK
    have h15:u 15= .agg #[.int .i64 2,.int .u8 yb,.int .i64 yl,.int .i64 yd]:=hd.get 3 (by kernel_rfl)
    clear hd
    simp only [h15]at hK
    obtain⟨hc,hm⟩:=hj
    rcases hm with⟨n17,n18,n19,n6,hF⟩|⟨l16,l17,_⟩
    ·go_simp
     refine Calls.mono (HLQ.out w_) ?_
     rintro z w2 ⟨rfl,c2⟩
     exact hK.out _ w2 ⟨hc.trans c2 (fun _ f=>f.elim),.inl ⟨n17,n18,n19,n6,chg_then hF c2⟩⟩ rfl
    ·rw [l16]at hli;cases hli
   ·show StepWS _ _ _ _ _ _ _ _ _
    unfold StepWS
    intro L_ u w_ hj hli hwt hd K hK
    have h12:u 12= .pointer (some ⟨r,0,none⟩):=hd.get 0 (by kernel_rfl)
    have h14:u 14= .int .i64 yd:=hd.get 2 (by kernel_rfl)
    have h16:u 16= .int .i64 yl:=hd.get 4 (by kernel_rfl)
    clear hd
    simp only [h12,h14,h16]at hK
    obtain⟨hc,hm⟩:=hj
    rcases hm with⟨n17,n18,n19,n6,hF⟩|⟨l16,l17,_⟩
    ·have m18: ¬L_ 6=true:=by rw [n18];decide
     have m19: ¬L_ 7=true:=by rw [n19];decide
     have m6: ¬L_ 8=true:=by rw [n6];decide
     have l16:L_ 4=true:=hwt ⟨4,.data⟩ (by simp) rfl
     go_simp
     refine Calls.mono (S.copy wb.heap.size r v n bs yd yl w_ (S.new HRW1.out hF) (by have:=HBB.out;have:=HC1.out.size;have:=hF.size;omega) HI.out.1 HI.out.2 hl) ?_
     rintro z w2 (⟨hno,_⟩|⟨_,ov,v',rfl,hqw,hqo,hqa,c2,hqm⟩)
     ·exact absurd ⟨HIN.out,HSZ.out⟩ hno
     exact hK.out _ w2 ⟨hc.trans c2 (fun z f=> .inl f),.inr ⟨l16,rfl,ov,v',rfl,(fun e=>absurd e m18),(fun e=>absurd e m19),(fun e=>absurd e m6),⟨⟨hqw,by rw [copyL_len];exact owns_base hqo (Nat.le_trans HC1.out.size hF.size),hqa⟩,moved_from (Nat.le_trans HC1.out.size hF.size) hqm⟩⟩⟩ trivial
    ·rw [l17]at hli;cases hli
   ·show StepWS _ _ _ _ _ _ _ _ _
    unfold StepWS
    intro L_ u w_ hj hli hwt hd K hK
    clear hd
    obtain⟨hc,hm⟩:=hj
    have lopr:L_ 5=true:=hwt ⟨5,.data⟩ (by simp) rfl
    rcases hm with⟨n17,n18,n19,n6,hF⟩|⟨l16,l17,ov,v',e17,q18,q19,q6,hp⟩
    ·rw [n17]at lopr;cases lopr
    ·have eo:=e17
     have HPH:Hid _:=hp
     clear hp
     simp only [eo]at hK⊢
     go_simp
     exact hK.out _ _ ⟨hc,.inr ⟨l16,l17,ov,v',e17,(fun _=>rfl),q19,q6,HPH.out⟩⟩ trivial
   ·show StepWS _ _ _ _ _ _ _ _ _
    unfold StepWS
    intro L_ u w_ hj hli hwt hd K hK
    clear hd
    obtain⟨hc,hm⟩:=hj
    have lopr:L_ 5=true:=hwt ⟨5,.data⟩ (by simp) rfl
    rcases hm with⟨n17,n18,n19,n6,hF⟩|⟨l16,l17,ov,v',e17,q18,q19,q6,hp⟩
    ·rw [n17]at lopr;cases lopr
    ·have eo:=e17
     have HPH:Hid _:=hp
     clear hp
     simp only [eo]at hK⊢
     go_simp
     exact hK.out _ _ ⟨hc,.inr ⟨l16,l17,ov,v',e17,q18,(fun _=>rfl),q6,HPH.out⟩⟩ trivial
   ·show StepWS _ _ _ _ _ _ _ _ _
    unfold StepWS
    intro L_ u w_ hj hli hwt hd K hK
    clear hd
    obtain⟨hc,hm⟩:=hj
    have lopr:L_ 6=true:=hwt ⟨6,.data⟩ (by simp) rfl
    rcases hm with⟨n17,n18,n19,n6,hF⟩|⟨l16,l17,ov,v',e17,q18,q19,q6,hp⟩
    ·rw [n18]at lopr;cases lopr
    ·have eo:=q18 lopr
     have HPH:Hid _:=hp
     clear hp
     simp only [eo,e17]at hK⊢
     go_simp
     exact hK.out _ _ ⟨hc,.inr ⟨l16,l17,ov,v',e17,q18,q19,(fun _=>rfl),HPH.out⟩⟩ trivial
  ·intro u w7 hj hA K hK
   obtain⟨hc7,hm⟩:=hj
   rcases hm with⟨nn,_⟩|⟨_,_,ov,v',eM,q0,q1,q6,hp⟩
   ·cases nn
   have e6:u 6=ov:=q6 rfl
   have e1:u 19= .int .i64 0:=q1 rfl
   have HM:Hid _:=hp.1
   have HMV:Hid (Moved w0 v v'):=hp.2
   have HC2:Hid (Chg (Foot r v) w0 w7):=(HC1.out.mono (fun _ f=>f.elim)).trans hc7 (fun z f=> .inl f)
   clear hA hc7 eM q0 q1 q6 hp HS1 HY1 HC1 HRW1
   simp only [e6,e1]
   go_simp
   refine hK.out _ _ ?_
   clear hK e6 e1
   go_wp2
   go_ret2
   exact⟨_,rfl,v',HM.out,HC2.out,HMV.out⟩
 ·have HIN:Hid (¬inwD n bs yd):=hi
  clear hi
  refine wp_region_setM (mk:=fun u=> #[_,_,_,_,_,_,u 6,_,_,_,_,_,u 12,u 13,u 14,u 15,u 16,u 17,u 18,u 19,_,_,_,_,_,_,_,_,_,_,_,_,_,_,_,_,_,_,_,_,_,_,_,_,_,_,_,_,_,_,_,_]) (G:=lookG [(12,.pointer (some ⟨r,0,none⟩)),(13,.pointer (some ⟨w0.heap.size+1,3,none⟩)),(14,.int .i64 yd),(15,.agg #[.int .i64 2,.int .u8 yb,.int .i64 yl,.int .i64 yd]),(16,.int .i64 yl)]) (J:=fun L_ u ww=>Chg (Foot r v) W1 ww∧((L_ 5=false∧L_ 6=false∧L_ 7=false∧L_ 8=false∧Chg (fun _=>False) W1 ww)∨(L_ 4=true∧L_ 5=true∧ ∃ov,u 17= .tuple #[ov,.int .i64 7]∧(L_ 6=true→u 18=ov)∧(L_ 7=true→u 19= .int .i64 7)∧(L_ 8=true→u 6=ov)∧(ov= .slice none 0 0∧Chg (fun _=>False) W1 ww)))) [4,5,6,7,8] ([]) (fun t=>if t=6 then .slice none 0 0 else if t=7 then .int .i64 0 else undef) rfl (by kernel_rfl) 9 _ rfl rfl (by kernel_rfl) (by kernel_rfl) ?_ ?_ ?_ ?_ ?_
  ·repeat (refine⟨fun _ _=>rfl,?_⟩)
   exact trivial
  ·intro L_ L2 u u2 ww h hj
   have l4_:L_ 4=L2 4:=(h 4 (by decide)).1
   have l5_:L_ 5=L2 5:=(h 5 (by decide)).1
   have e5_:u 17=u2 17:=(h 5 (by decide)).2
   have l6_:L_ 6=L2 6:=(h 6 (by decide)).1
   have e6_:u 18=u2 18:=(h 6 (by decide)).2
   have l7_:L_ 7=L2 7:=(h 7 (by decide)).1
   have e7_:u 19=u2 19:=(h 7 (by decide)).2
   have l8_:L_ 8=L2 8:=(h 8 (by decide)).1
   have e8_:u 6=u2 6:=(h 8 (by decide)).2
   show _∧_
   rw [←l4_,←l5_,←e5_,←l6_,←e6_,←l7_,←e7_,←l8_,←e8_]
   exact hj
  ·exact⟨(Chg.refl _ W1).drew,.inl ⟨rfl,rfl,rfl,rfl,(Chg.refl _ W1).drew⟩⟩
  ·refine⟨?_,?_,?_,?_,?_,?_,?_,?_,?_,trivial⟩
   ·show StepRS _ _ _ _ _ _ _ _
    unfold StepRS
    intro L_ u w_ hj hd K hK
    clear hd
    have hc:=hj.1
    clear hj hc
    go_simp
    exact hK.out _ rfl
   ·show StepRS _ _ _ _ _ _ _ _
    unfold StepRS
    intro L_ u w_ hj hd K hK
    clear hd
    have hc:=hj.1
    clear hj hc
    go_simp
    exact hK.out _ rfl
   ·show StepRS _ _ _ _ _ _ _ _
    unfold StepRS
    intro L_ u w_ hj hd K hK
    have h13:u 13= .pointer (some ⟨w0.heap.size+1,3,none⟩):=hd.get 1 (by kernel_rfl)
    clear hd
    simp only [h13]at hK
    have hc:=hj.1
    obtain⟨x0,x1,x2,x3⟩:=cells4y (blk_keep HY1.out hc (fun f=>by have:=HLR.out _ f;omega))
    clear hj hc
    go_simp
    exact hK.out _ rfl
   ·show StepRS _ _ _ _ _ _ _ _
    unfold StepRS
    intro L_ u w_ hj hd K hK
    clear hd
    have hc:=hj.1
    obtain⟨x0,x1,x2,x3⟩:=cells4y (blk_keep HY1.out hc (fun f=>by have:=HLR.out _ f;omega))
    clear hj hc
    go_simp
    exact hK.out _ rfl
   ·show StepWS _ _ _ _ _ _ _ _ _
    unfold StepWS
    intro L_ u w_ hj hli hwt hd K hK
    have h15:u 15= .agg #[.int .i64 2,.int .u8 yb,.int .i64 yl,.int .i64 yd]:=hd.get 3 (by kernel_rfl)
    clear hd
    simp only [h15]at hK
    obtain⟨hc,hm⟩:=hj
    rcases hm with⟨n17,n18,n19,n6,hF⟩|⟨l16,l17,_⟩
    ·go_simp
     refine Calls.mono (HLQ.out w_) ?_
     rintro z w2 ⟨rfl,c2⟩
     exact hK.out _ w2 ⟨hc.trans c2 (fun _ f=>f.elim),.inl ⟨n17,n18,n19,n6,chg_then hF c2⟩⟩ rfl
    ·rw [l16]at hli;cases hli
   ·show StepWS _ _ _ _ _ _ _ _ _
    unfold StepWS
    intro L_ u w_ hj hli hwt hd K hK
    have h12:u 12= .pointer (some ⟨r,0,none⟩):=hd.get 0 (by kernel_rfl)
    have h14:u 14= .int .i64 yd:=hd.get 2 (by kernel_rfl)
    have h16:u 16= .int .i64 yl:=hd.get 4 (by kernel_rfl)
    clear hd
    simp only [h12,h14,h16]at hK
    obtain⟨hc,hm⟩:=hj
    rcases hm with⟨n17,n18,n19,n6,hF⟩|⟨l16,l17,_⟩
    ·have m18: ¬L_ 6=true:=by rw [n18];decide
     have m19: ¬L_ 7=true:=by rw [n19];decide
     have m6: ¬L_ 8=true:=by rw [n6];decide
     have l16:L_ 4=true:=hwt ⟨4,.data⟩ (by simp) rfl
     go_simp
     refine Calls.mono (S.copy wb.heap.size r v n bs yd yl w_ (S.new HRW1.out hF) (by have:=HBB.out;have:=HC1.out.size;have:=hF.size;omega) HI.out.1 HI.out.2 hl) ?_
     rintro z w2 (⟨_,rfl,c3⟩|⟨hin,_⟩)
     rotate_left
     ·exact absurd hin.1 HIN.out
     have c2:Chg (Foot r v) w_ w2:=c3.mono (fun _ f=>f.elim)
     exact hK.out _ w2 ⟨hc.trans c2 (fun z f=> .inl f),.inr ⟨l16,rfl,_,rfl,(fun e=>absurd e m18),(fun e=>absurd e m19),(fun e=>absurd e m6),⟨rfl,chg_then hF c3⟩⟩⟩ trivial
    ·rw [l17]at hli;cases hli
   ·show StepWS _ _ _ _ _ _ _ _ _
    unfold StepWS
    intro L_ u w_ hj hli hwt hd K hK
    clear hd
    obtain⟨hc,hm⟩:=hj
    have lopr:L_ 5=true:=hwt ⟨5,.data⟩ (by simp) rfl
    rcases hm with⟨n17,n18,n19,n6,hF⟩|⟨l16,l17,ov,e17,q18,q19,q6,hp⟩
    ·rw [n17]at lopr;cases lopr
    ·have eo:=e17
     have HPH:Hid _:=hp
     clear hp
     simp only [eo]at hK⊢
     go_simp
     exact hK.out _ _ ⟨hc,.inr ⟨l16,l17,ov,e17,(fun _=>rfl),q19,q6,HPH.out⟩⟩ trivial
   ·show StepWS _ _ _ _ _ _ _ _ _
    unfold StepWS
    intro L_ u w_ hj hli hwt hd K hK
    clear hd
    obtain⟨hc,hm⟩:=hj
    have lopr:L_ 5=true:=hwt ⟨5,.data⟩ (by simp) rfl
    rcases hm with⟨n17,n18,n19,n6,hF⟩|⟨l16,l17,ov,e17,q18,q19,q6,hp⟩
    ·rw [n17]at lopr;cases lopr
    ·have eo:=e17
     have HPH:Hid _:=hp
     clear hp
     simp only [eo]at hK⊢
     go_simp
     exact hK.out _ _ ⟨hc,.inr ⟨l16,l17,ov,e17,q18,(fun _=>rfl),q6,HPH.out⟩⟩ trivial
   ·show StepWS _ _ _ _ _ _ _ _ _
    unfold StepWS
    intro L_ u w_ hj hli hwt hd K hK
    clear hd
    obtain⟨hc,hm⟩:=hj
    have lopr:L_ 6=true:=hwt ⟨6,.data⟩ (by simp) rfl
    rcases hm with⟨n17,n18,n19,n6,hF⟩|⟨l16,l17,ov,e17,q18,q19,q6,hp⟩
    ·rw [n18]at lopr;cases lopr
    ·have eo:=q18 lopr
     have HPH:Hid _:=hp
     clear hp
     simp only [eo,e17]at hK⊢
     go_simp
     exact hK.out _ _ ⟨hc,.inr ⟨l16,l17,ov,e17,q18,q19,(fun _=>rfl),HPH.out⟩⟩ trivial
  ·intro u w7 hj hA K hK
   obtain⟨hc7,hm⟩:=hj
   rcases hm with⟨nn,_⟩|⟨_,_,ov,eM,q0,q1,q6,hov,hp⟩
   ·cases nn
   have e6:u 6=ov:=q6 rfl
   have e1:u 19= .int .i64 7:=q1 rfl
   subst hov
   have HC2:Hid (Chg (fun _=>False) w0 w7):=chg_then HC1.out hp
   clear hA hc7 eM q0 q1 q6 hp HS1 HY1 HC1 HRW1
   simp only [e6,e1]
   go_simp
   refine hK.out _ _ ?_
   clear hK e6 e1
   go_wp2
   go_ret2
   refine⟨_,rfl,v,⟨?_,World.ownsRow_nil _ _ _ _,fun g e=>(nomatch e)⟩,HC2.out.mono (fun _ f=>f.elim),fun g e=> .inl e⟩
   exact S.new HRW.out HC2.out
set_option maxHeartbeats 4000000 in
set_option maxRecDepth 100000 in
theorem tlay_rep0 (S:WinSpec Win)(wb:World)(r:Nat)(v:Value)(n:Nat)(bs:List Nat)(sn a b c d yb yl:Int)(hs:(⟨sn,a,b,c,d⟩:Stt).I)(hy:(⟨3,yb,yl,0⟩:Sym).I)(hf:formed ⟨3,yb,yl,0⟩=0)(w0:World)(hB:wb.heap.size≤w0.heap.size)(h:Win w0 wb.heap.size r v n bs)(hl:bs.length+273≤1152921504606846976):Calls Tryz.prog 80 #[.pointer (some ⟨r,0,none⟩),.agg #[.int .i64 sn,.int .i64 a,.int .i64 b,.int .i64 c,.int .i64 d],.agg #[.int .i64 3,.int .u8 yb,.int .i64 yl,.int .i64 0]] w0 fun e w'=> ∃ov v',e= .returned (.tuple #[ov,.int .i64 (if inwD n bs a then 0 else 7)])∧Made Win wb.heap.size w0.heap.size r n (bs++(if inwD n bs a then(copyL (a:Int).toNat bs (yl:Int).toNat)else [])) (if inwD n bs a then(copyL (a:Int).toNat bs (yl:Int).toNat)else []) ov v' w'∧Chg (Foot r v) w0 w'∧Moved w0 v v':=by
 have HS1:Hid (((w0.alloc (.cells #[.int .i64 sn,.int .i64 a,.int .i64 b,.int .i64 c,.int .i64 d] 88)).alloc (.cells #[.int .i64 3,.int .u8 yb,.int .i64 yl,.int .i64 0] 34)).heap[w0.heap.size]?=some (.cells #[.int .i64 sn,.int .i64 a,.int .i64 b,.int .i64 c,.int .i64 d] 88 (0,0))):=(Below.heap_alloc _ _ _ (by simp)).trans (heap_alloc_last w0 _)
 have HY1:Hid (((w0.alloc (.cells #[.int .i64 sn,.int .i64 a,.int .i64 b,.int .i64 c,.int .i64 d] 88)).alloc (.cells #[.int .i64 3,.int .u8 yb,.int .i64 yl,.int .i64 0] 34)).heap[w0.heap.size+1]?=some (.cells #[.int .i64 3,.int .u8 yb,.int .i64 yl,.int .i64 0] 34 (0,0))):=by
  have:=heap_alloc_last (w0.alloc (.cells #[.int .i64 sn,.int .i64 a,.int .i64 b,.int .i64 c,.int .i64 d] 88)) (.cells #[.int .i64 3,.int .u8 yb,.int .i64 yl,.int .i64 0] 34)
  rw [World.size_alloc]at this
  exact this
 have HC1:Hid (Chg (fun _=>False) w0 ((w0.alloc (.cells #[.int .i64 sn,.int .i64 a,.int .i64 b,.int .i64 c,.int .i64 d] 88)).alloc (.cells #[.int .i64 3,.int .u8 yb,.int .i64 yl,.int .i64 0] 34))):=chg_then (chg_one _ _) (chg_one _ _)
 have HLR:Hid (∀z,Foot r v z→z<w0.heap.size):=fun z f=>(S.lt h z f).2
 have HRW:Hid (Win w0 wb.heap.size r v n bs):=h
 have HRW1:Hid (Win ((w0.alloc (.cells #[.int .i64 sn,.int .i64 a,.int .i64 b,.int .i64 c,.int .i64 d] 88)).alloc (.cells #[.int .i64 3,.int .u8 yb,.int .i64 yl,.int .i64 0] 34)) wb.heap.size r v n bs):=S.new h HC1.out
 have HBB:Hid (wb.heap.size≤w0.heap.size):=hB
 have hk:=formed_kind hf
 simp at hk
 have HSZ:Hid ((0:Int)≤yl∧(yl:Int)≤273):=by constructor<;>omega
 have HI:Hid (I64 a∧I64 yl):=⟨hs.a,by have:=HSZ.out;unfold I64;omega⟩
 have HLQ:Hid (∀w_,Calls Tryz.prog 127 #[.agg #[.int .i64 3,.int .u8 yb,.int .i64 yl,.int .i64 0]] w_ fun e w'=>e= .returned (.int .i64 yl)∧Chg (fun _=>False) w_ w'):=fun w_=>by
  have h9:=tlen_q 3 yb yl 0 hf w_
  rw [show sizeA ⟨3,yb,yl,0⟩=yl from by unfold sizeA;rw [if_neg (by simp [hf])];rfl]at h9
  exact h9
 obtain⟨s0,s1,s2,s3,s4⟩:=cells5 HS1.out
 obtain⟨y0,y1,y2,y3⟩:=cells4y HY1.out
 clear hs hy hf hB h hk
 go_enter Tryz.func80,Tryz.ntmps80
 go_wp2_with fail
 generalize (w0.alloc (.cells #[.int .i64 sn,.int .i64 a,.int .i64 b,.int .i64 c,.int .i64 d] 88)).alloc (.cells #[.int .i64 3,.int .u8 yb,.int .i64 yl,.int .i64 0] 34)=W1 at*
 clear s0 s1 s2 s3 s4 y0 y1 y2 y3
 by_cases hi:inwD n bs a
 ·have HIN:Hid (inwD n bs a):=hi
  clear hi
  refine wp_region_setM (mk:=fun u=> #[_,_,_,_,_,_,u 6,_,_,_,_,_,_,_,_,_,_,_,_,_,_,_,u 22,u 23,u 24,u 25,u 26,u 27,u 28,u 29,u 30,u 31,u 32,_,_,_,_,_,_,_,_,_,_,_,_,_,_,_,_,_,_,_]) (G:=lookG [(22,.pointer (some ⟨r,0,none⟩)),(23,.pointer (some ⟨w0.heap.size+1,3,none⟩)),(24,.int .i64 0),(25,.pointer (some ⟨w0.heap.size,1,none⟩)),(26,.pointer (some ⟨w0.heap.size,1,none⟩)),(27,.int .i64 a),(28,.agg #[.int .i64 3,.int .u8 yb,.int .i64 yl,.int .i64 0]),(29,.int .i64 yl)]) (J:=fun L_ u ww=>Chg (Foot r v) W1 ww∧((L_ 8=false∧L_ 9=false∧L_ 10=false∧L_ 11=false∧Chg (fun _=>False) W1 ww)∨(L_ 7=true∧L_ 8=true∧ ∃ov v',u 30= .tuple #[ov,.int .i64 0]∧(L_ 9=true→u 31=ov)∧(L_ 10=true→u 32= .int .i64 0)∧(L_ 11=true→u 6=ov)∧(Made Win wb.heap.size w0.heap.size r n (bs++(copyL (a:Int).toNat bs (yl:Int).toNat)) (copyL (a:Int).toNat bs (yl:Int).toNat) ov v' ww∧Moved w0 v v')))) [7,8,9,10,11] ([]) (fun t=>if t=6 then .slice none 0 0 else if t=7 then .int .i64 0 else undef) rfl (by kernel_rfl) 12 _ rfl rfl (by kernel_rfl) (by kernel_rfl) ?_ ?_ ?_ ?_ ?_
  ·repeat (refine⟨fun _ _=>rfl,?_⟩)
   exact trivial
  ·intro L_ L2 u u2 ww h hj
   have l7_:L_ 7=L2 7:=(h 7 (by decide)).1
   have l8_:L_ 8=L2 8:=(h 8 (by decide)).1
   have e8_:u 30=u2 30:=(h 8 (by decide)).2
   have l9_:L_ 9=L2 9:=(h 9 (by decide)).1
   have e9_:u 31=u2 31:=(h 9 (by decide)).2
   have l10_:L_ 10=L2 10:=(h 10 (by decide)).1
   have e10_:u 32=u2 32:=(h 10 (by decide)).2
   have l11_:L_ 11=L2 11:=(h 11 (by decide)).1
   have e11_:u 6=u2 6:=(h 11 (by decide)).2
   show _∧_
   rw [←l7_,←l8_,←e8_,←l9_,←e9_,←l10_,←e10_,←l11_,←e11_]
   exact hj
  ·exact⟨(Chg.refl _ W1).drew,.inl ⟨rfl,rfl,rfl,rfl,(Chg.refl _ W1).drew⟩⟩
  ·refine⟨?_,?_,?_,?_,?_,?_,?_,?_,?_,?_,?_,?_,trivial⟩
   ·show StepRS _ _ _ _ _ _ _ _
    unfold StepRS
    intro L_ u w_ hj hd K hK
    clear hd
    have hc:=hj.1
    clear hj hc
    go_simp
    exact hK.out _ rfl
   ·show StepRS _ _ _ _ _ _ _ _
    unfold StepRS
    intro L_ u w_ hj hd K hK
    clear hd
    have hc:=hj.1
    clear hj hc
    go_simp
    exact hK.out _ rfl
   ·show StepRS _ _ _ _ _ _ _ _
    unfold StepRS
    intro L_ u w_ hj hd K hK
    have h23:u 23= .pointer (some ⟨w0.heap.size+1,3,none⟩):=hd.get 1 (by kernel_rfl)
    clear hd
    simp only [h23]at hK
    have hc:=hj.1
    obtain⟨x0,x1,x2,x3⟩:=cells4y (blk_keep HY1.out hc (fun f=>by have:=HLR.out _ f;omega))
    clear hj hc
    go_simp
    exact hK.out _ rfl
   ·show StepRS _ _ _ _ _ _ _ _
    unfold StepRS
    intro L_ u w_ hj hd K hK
    clear hd
    have hc:=hj.1
    clear hj hc
    go_simp
    exact hK.out _ rfl
   ·show StepRS _ _ _ _ _ _ _ _
    unfold StepRS
    intro L_ u w_ hj hd K hK
    have h25:u 25= .pointer (some ⟨w0.heap.size,1,none⟩):=hd.get 3 (by kernel_rfl)
    have h24:u 24= .int .i64 0:=hd.get 2 (by kernel_rfl)
    clear hd
    simp only [h25,h24]at hK
    have hc:=hj.1
    clear hj hc
    go_simp
    exact hK.out _ rfl
   ·show StepRS _ _ _ _ _ _ _ _
    unfold StepRS
    intro L_ u w_ hj hd K hK
    have h26:u 26= .pointer (some ⟨w0.heap.size,1,none⟩):=hd.get 4 (by kernel_rfl)
    clear hd
    simp only [h26]at hK
    have hc:=hj.1
    obtain⟨x0,x1,x2,x3,x4⟩:=cells5 (blk_keep HS1.out hc (fun f=>by have:=HLR.out _ f;omega))
    clear hj hc
    go_simp
    exact hK.out _ rfl
   ·show StepRS _ _ _ _ _ _ _ _
    unfold StepRS
    intro L_ u w_ hj hd K hK
    clear hd
    have hc:=hj.1
    obtain⟨x0,x1,x2,x3⟩:=cells4y (blk_keep HY1.out hc (fun f=>by have:=HLR.out _ f;omega))
    clear hj hc
    go_simp
    exact hK.out _ rfl
   ·show StepWS _ _ _ _ _ _ _ _ _
    unfold StepWS
    intro L_ u w_ hj hli hwt hd K hK
    have h28:u 28= .agg #[.int .i64 3,.int .u8 yb,.int .i64 yl,.int .i64 0]:=hd.get 6 (by kernel_rfl)
    clear hd
    simp only [h28]at hK
    obtain⟨hc,hm⟩:=hj
    rcases hm with⟨n30,n31,n32,n6,hF⟩|⟨l29,l30,_⟩
    ·go_simp
     refine Calls.mono (HLQ.out w_) ?_
     rintro z w2 ⟨rfl,c2⟩
     exact hK.out _ w2 ⟨hc.trans c2 (fun _ f=>f.elim),.inl ⟨n30,n31,n32,n6,chg_then hF c2⟩⟩ rfl
    ·rw [l29]at hli;cases hli
   ·show StepWS _ _ _ _ _ _ _ _ _
    unfold StepWS
    intro L_ u w_ hj hli hwt hd K hK
    have h22:u 22= .pointer (some ⟨r,0,none⟩):=hd.get 0 (by kernel_rfl)
    have h27:u 27= .int .i64 a:=hd.get 5 (by kernel_rfl)
    have h29:u 29= .int .i64 yl:=hd.get 7 (by kernel_rfl)
    clear hd
    simp only [h22,h27,h29]at hK
    obtain⟨hc,hm⟩:=hj
    rcases hm with⟨n30,n31,n32,n6,hF⟩|⟨l29,l30,_⟩
    ·have m31: ¬L_ 9=true:=by rw [n31];decide
     have m32: ¬L_ 10=true:=by rw [n32];decide
     have m6: ¬L_ 11=true:=by rw [n6];decide
     have l29:L_ 7=true:=hwt ⟨7,.data⟩ (by simp) rfl
     go_simp
     refine Calls.mono (S.copy wb.heap.size r v n bs a yl w_ (S.new HRW1.out hF) (by have:=HBB.out;have:=HC1.out.size;have:=hF.size;omega) HI.out.1 HI.out.2 hl) ?_
     rintro z w2 (⟨hno,_⟩|⟨_,ov,v',rfl,hqw,hqo,hqa,c2,hqm⟩)
     ·exact absurd ⟨HIN.out,HSZ.out⟩ hno
     exact hK.out _ w2 ⟨hc.trans c2 (fun z f=> .inl f),.inr ⟨l29,rfl,ov,v',rfl,(fun e=>absurd e m31),(fun e=>absurd e m32),(fun e=>absurd e m6),⟨⟨hqw,by rw [copyL_len];exact owns_base hqo (Nat.le_trans HC1.out.size hF.size),hqa⟩,moved_from (Nat.le_trans HC1.out.size hF.size) hqm⟩⟩⟩ trivial
    ·rw [l30]at hli;cases hli
   ·show StepWS _ _ _ _ _ _ _ _ _
    unfold StepWS
    intro L_ u w_ hj hli hwt hd K hK
    clear hd
    obtain⟨hc,hm⟩:=hj
    have lopr:L_ 8=true:=hwt ⟨8,.data⟩ (by simp) rfl
    rcases hm with⟨n30,n31,n32,n6,hF⟩|⟨l29,l30,ov,v',e30,q31,q32,q6,hp⟩
    ·rw [n30]at lopr;cases lopr
    ·have eo:=e30
     have HPH:Hid _:=hp
     clear hp
     simp only [eo]at hK⊢
     go_simp
     exact hK.out _ _ ⟨hc,.inr ⟨l29,l30,ov,v',e30,(fun _=>rfl),q32,q6,HPH.out⟩⟩ trivial
   ·show StepWS _ _ _ _ _ _ _ _ _
    unfold StepWS
    intro L_ u w_ hj hli hwt hd K hK
    clear hd
    obtain⟨hc,hm⟩:=hj
    have lopr:L_ 8=true:=hwt ⟨8,.data⟩ (by simp) rfl
    rcases hm with⟨n30,n31,n32,n6,hF⟩|⟨l29,l30,ov,v',e30,q31,q32,q6,hp⟩
    ·rw [n30]at lopr;cases lopr
    ·have eo:=e30
     have HPH:Hid _:=hp
     clear hp
     simp only [eo]at hK⊢
     go_simp
     exact hK.out _ _ ⟨hc,.inr ⟨l29,l30,ov,v',e30,q31,(fun _=>rfl),q6,HPH.out⟩⟩ trivial
   ·show StepWS _ _ _ _ _ _ _ _ _
    unfold StepWS
    intro L_ u w_ hj hli hwt hd K hK
    clear hd
    obtain⟨hc,hm⟩:=hj
    have lopr:L_ 9=true:=hwt ⟨9,.data⟩ (by simp) rfl
    rcases hm with⟨n30,n31,n32,n6,hF⟩|⟨l29,l30,ov,v',e30,q31,q32,q6,hp⟩
    ·rw [n31]at lopr;cases lopr
    ·have eo:=q31 lopr
     have HPH:Hid _:=hp
     clear hp
     simp only [eo,e30]at hK⊢
     go_simp
     exact hK.out _ _ ⟨hc,.inr ⟨l29,l30,ov,v',e30,q31,q32,(fun _=>rfl),HPH.out⟩⟩ trivial
  ·intro u w7 hj hA K hK
   obtain⟨hc7,hm⟩:=hj
   rcases hm with⟨nn,_⟩|⟨_,_,ov,v',eM,q0,q1,q6,hp⟩
   ·cases nn
   have e6:u 6=ov:=q6 rfl
   have e1:u 32= .int .i64 0:=q1 rfl
   have HM:Hid _:=hp.1
   have HMV:Hid (Moved w0 v v'):=hp.2
   have HC2:Hid (Chg (Foot r v) w0 w7):=(HC1.out.mono (fun _ f=>f.elim)).trans hc7 (fun z f=> .inl f)
   clear hA hc7 eM q0 q1 q6 hp HS1 HY1 HC1 HRW1
   simp only [e6,e1]
   go_simp
   refine hK.out _ _ ?_
   clear hK e6 e1
   go_wp2
   go_ret2
   exact⟨_,rfl,v',HM.out,HC2.out,HMV.out⟩
 ·have HIN:Hid (¬inwD n bs a):=hi
  clear hi
  refine wp_region_setM (mk:=fun u=> #[_,_,_,_,_,_,u 6,_,_,_,_,_,_,_,_,_,_,_,_,_,_,_,u 22,u 23,u 24,u 25,u 26,u 27,u 28,u 29,u 30,u 31,u 32,_,_,_,_,_,_,_,_,_,_,_,_,_,_,_,_,_,_,_]) (G:=lookG [(22,.pointer (some ⟨r,0,none⟩)),(23,.pointer (some ⟨w0.heap.size+1,3,none⟩)),(24,.int .i64 0),(25,.pointer (some ⟨w0.heap.size,1,none⟩)),(26,.pointer (some ⟨w0.heap.size,1,none⟩)),(27,.int .i64 a),(28,.agg #[.int .i64 3,.int .u8 yb,.int .i64 yl,.int .i64 0]),(29,.int .i64 yl)]) (J:=fun L_ u ww=>Chg (Foot r v) W1 ww∧((L_ 8=false∧L_ 9=false∧L_ 10=false∧L_ 11=false∧Chg (fun _=>False) W1 ww)∨(L_ 7=true∧L_ 8=true∧ ∃ov,u 30= .tuple #[ov,.int .i64 7]∧(L_ 9=true→u 31=ov)∧(L_ 10=true→u 32= .int .i64 7)∧(L_ 11=true→u 6=ov)∧(ov= .slice none 0 0∧Chg (fun _=>False) W1 ww)))) [7,8,9,10,11] ([]) (fun t=>if t=6 then .slice none 0 0 else if t=7 then .int .i64 0 else undef) rfl (by kernel_rfl) 12 _ rfl rfl (by kernel_rfl) (by kernel_rfl) ?_ ?_ ?_ ?_ ?_
  ·repeat (refine⟨fun _ _=>rfl,?_⟩)
   exact trivial
  ·intro L_ L2 u u2 ww h hj
   have l7_:L_ 7=L2 7:=(h 7 (by decide)).1
   have l8_:L_ 8=L2 8:=(h 8 (by decide)).1
   have e8_:u 30=u2 30:=(h 8 (by decide)).2
   have l9_:L_ 9=L2 9:=(h 9 (by decide)).1
   have e9_:u 31=u2 31:=(h 9 (by decide)).2
   have l10_:L_ 10=L2 10:=(h 10 (by decide)).1
   have e10_:u 32=u2 32:=(h 10 (by decide)).2
   have l11_:L_ 11=L2 11:=(h 11 (by decide)).1
   have e11_:u 6=u2 6:=(h 11 (by decide)).2
   show _∧_
   rw [←l7_,←l8_,←e8_,←l9_,←e9_,←l10_,←e10_,←l11_,←e11_]
   exact hj
  ·exact⟨(Chg.refl _ W1).drew,.inl ⟨rfl,rfl,rfl,rfl,(Chg.refl _ W1).drew⟩⟩
  ·refine⟨?_,?_,?_,?_,?_,?_,?_,?_,?_,?_,?_,?_,trivial⟩
   ·show StepRS _ _ _ _ _ _ _ _
    unfold StepRS
    intro L_ u w_ hj hd K hK
    clear hd
    have hc:=hj.1
    clear hj hc
    go_simp
    exact hK.out _ rfl
   ·show StepRS _ _ _ _ _ _ _ _
    unfold StepRS
    intro L_ u w_ hj hd K hK
    clear hd
    have hc:=hj.1
    clear hj hc
    go_simp
    exact hK.out _ rfl
   ·show StepRS _ _ _ _ _ _ _ _
    unfold StepRS
    intro L_ u w_ hj hd K hK
    have h23:u 23= .pointer (some ⟨w0.heap.size+1,3,none⟩):=hd.get 1 (by kernel_rfl)
    clear hd
    simp only [h23]at hK
    have hc:=hj.1
    obtain⟨x0,x1,x2,x3⟩:=cells4y (blk_keep HY1.out hc (fun f=>by have:=HLR.out _ f;omega))
    clear hj hc
    go_simp
    exact hK.out _ rfl
   ·show StepRS _ _ _ _ _ _ _ _
    unfold StepRS
    intro L_ u w_ hj hd K hK
    clear hd
    have hc:=hj.1
    clear hj hc
    go_simp
    exact hK.out _ rfl
   ·show StepRS _ _ _ _ _ _ _ _
    unfold StepRS
    intro L_ u w_ hj hd K hK
    have h25:u 25= .pointer (some ⟨w0.heap.size,1,none⟩):=hd.get 3 (by kernel_rfl)
    have h24:u 24= .int .i64 0:=hd.get 2 (by kernel_rfl)
    clear hd
    simp only [h25,h24]at hK
    have hc:=hj.1
    clear hj hc
    go_simp
    exact hK.out _ rfl
   ·show StepRS _ _ _ _ _ _ _ _
    unfold StepRS
    intro L_ u w_ hj hd K hK
    have h26:u 26= .pointer (some ⟨w0.heap.size,1,none⟩):=hd.get 4 (by kernel_rfl)
    clear hd
    simp only [h26]at hK
    have hc:=hj.1
    obtain⟨x0,x1,x2,x3,x4⟩:=cells5 (blk_keep HS1.out hc (fun f=>by have:=HLR.out _ f;omega))
    clear hj hc
    go_simp
    exact hK.out _ rfl
   ·show StepRS _ _ _ _ _ _ _ _
    unfold StepRS
    intro L_ u w_ hj hd K hK
    clear hd
    have hc:=hj.1
    obtain⟨x0,x1,x2,x3⟩:=cells4y (blk_keep HY1.out hc (fun f=>by have:=HLR.out _ f;omega))
    clear hj hc
    go_simp
    exact hK.out _ rfl
   ·show StepWS _ _ _ _ _ _ _ _ _
    unfold StepWS
    intro L_ u w_ hj hli hwt hd K hK
    have h28:u 28= .agg #[.int .i64 3,.int .u8 yb,.int .i64 yl,.int .i64 0]:=hd.get 6 (by kernel_rfl)
    clear hd
    simp only [h28]at hK
    obtain⟨hc,hm⟩:=hj
    rcases hm with⟨n30,n31,n32,n6,hF⟩|⟨l29,l30,_⟩
    ·go_simp
     refine Calls.mono (HLQ.out w_) ?_
     rintro z w2 ⟨rfl,c2⟩
     exact hK.out _ w2 ⟨hc.trans c2 (fun _ f=>f.elim),.inl ⟨n30,n31,n32,n6,chg_then hF c2⟩⟩ rfl
    ·rw [l29]at hli;cases hli
   ·show StepWS _ _ _ _ _ _ _ _ _
    unfold StepWS
    intro L_ u w_ hj hli hwt hd K hK
    have h22:u 22= .pointer (some ⟨r,0,none⟩):=hd.get 0 (by kernel_rfl)
    have h27:u 27= .int .i64 a:=hd.get 5 (by kernel_rfl)
    have h29:u 29= .int .i64 yl:=hd.get 7 (by kernel_rfl)
    clear hd
    simp only [h22,h27,h29]at hK
    obtain⟨hc,hm⟩:=hj
    rcases hm with⟨n30,n31,n32,n6,hF⟩|⟨l29,l30,_⟩
    ·have m31: ¬L_ 9=true:=by rw [n31];decide
     have m32: ¬L_ 10=true:=by rw [n32];decide
     have m6: ¬L_ 11=true:=by rw [n6];decide
     have l29:L_ 7=true:=hwt ⟨7,.data⟩ (by simp) rfl
     go_simp
     refine Calls.mono (S.copy wb.heap.size r v n bs a yl w_ (S.new HRW1.out hF) (by have:=HBB.out;have:=HC1.out.size;have:=hF.size;omega) HI.out.1 HI.out.2 hl) ?_
     rintro z w2 (⟨_,rfl,c3⟩|⟨hin,_⟩)
     rotate_left
     ·exact absurd hin.1 HIN.out
     have c2:Chg (Foot r v) w_ w2:=c3.mono (fun _ f=>f.elim)
     exact hK.out _ w2 ⟨hc.trans c2 (fun z f=> .inl f),.inr ⟨l29,rfl,_,rfl,(fun e=>absurd e m31),(fun e=>absurd e m32),(fun e=>absurd e m6),⟨rfl,chg_then hF c3⟩⟩⟩ trivial
    ·rw [l30]at hli;cases hli
   ·show StepWS _ _ _ _ _ _ _ _ _
    unfold StepWS
    intro L_ u w_ hj hli hwt hd K hK
    clear hd
    obtain⟨hc,hm⟩:=hj
    have lopr:L_ 8=true:=hwt ⟨8,.data⟩ (by simp) rfl
    rcases hm with⟨n30,n31,n32,n6,hF⟩|⟨l29,l30,ov,e30,q31,q32,q6,hp⟩
    ·rw [n30]at lopr;cases lopr
    ·have eo:=e30
     have HPH:Hid _:=hp
     clear hp
     simp only [eo]at hK⊢
     go_simp
     exact hK.out _ _ ⟨hc,.inr ⟨l29,l30,ov,e30,(fun _=>rfl),q32,q6,HPH.out⟩⟩ trivial
   ·show StepWS _ _ _ _ _ _ _ _ _
    unfold StepWS
    intro L_ u w_ hj hli hwt hd K hK
    clear hd
    obtain⟨hc,hm⟩:=hj
    have lopr:L_ 8=true:=hwt ⟨8,.data⟩ (by simp) rfl
    rcases hm with⟨n30,n31,n32,n6,hF⟩|⟨l29,l30,ov,e30,q31,q32,q6,hp⟩
    ·rw [n30]at lopr;cases lopr
    ·have eo:=e30
     have HPH:Hid _:=hp
     clear hp
     simp only [eo]at hK⊢
     go_simp
     exact hK.out _ _ ⟨hc,.inr ⟨l29,l30,ov,e30,q31,(fun _=>rfl),q6,HPH.out⟩⟩ trivial
   ·show StepWS _ _ _ _ _ _ _ _ _
    unfold StepWS
    intro L_ u w_ hj hli hwt hd K hK
    clear hd
    obtain⟨hc,hm⟩:=hj
    have lopr:L_ 9=true:=hwt ⟨9,.data⟩ (by simp) rfl
    rcases hm with⟨n30,n31,n32,n6,hF⟩|⟨l29,l30,ov,e30,q31,q32,q6,hp⟩
    ·rw [n31]at lopr;cases lopr
    ·have eo:=q31 lopr
     have HPH:Hid _:=hp
     clear hp
     simp only [eo,e30]at hK⊢
     go_simp
     exact hK.out _ _ ⟨hc,.inr ⟨l29,l30,ov,e30,q31,q32,(fun _=>rfl),HPH.out⟩⟩ trivial
  ·intro u w7 hj hA K hK
   obtain⟨hc7,hm⟩:=hj
   rcases hm with⟨nn,_⟩|⟨_,_,ov,eM,q0,q1,q6,hov,hp⟩
   ·cases nn
   have e6:u 6=ov:=q6 rfl
   have e1:u 32= .int .i64 7:=q1 rfl
   subst hov
   have HC2:Hid (Chg (fun _=>False) w0 w7):=chg_then HC1.out hp
   clear hA hc7 eM q0 q1 q6 hp HS1 HY1 HC1 HRW1
   simp only [e6,e1]
   go_simp
   refine hK.out _ _ ?_
   clear hK e6 e1
   go_wp2
   go_ret2
   refine⟨_,rfl,v,⟨?_,World.ownsRow_nil _ _ _ _,fun g e=>(nomatch e)⟩,HC2.out.mono (fun _ f=>f.elim),fun g e=> .inl e⟩
   exact S.new HRW.out HC2.out
set_option maxHeartbeats 4000000 in
set_option maxRecDepth 100000 in
theorem tlay_rep1 (S:WinSpec Win)(wb:World)(r:Nat)(v:Value)(n:Nat)(bs:List Nat)(sn a b c d yb yl:Int)(hs:(⟨sn,a,b,c,d⟩:Stt).I)(hy:(⟨3,yb,yl,1⟩:Sym).I)(hf:formed ⟨3,yb,yl,1⟩=0)(w0:World)(hB:wb.heap.size≤w0.heap.size)(h:Win w0 wb.heap.size r v n bs)(hl:bs.length+273≤1152921504606846976):Calls Tryz.prog 80 #[.pointer (some ⟨r,0,none⟩),.agg #[.int .i64 sn,.int .i64 a,.int .i64 b,.int .i64 c,.int .i64 d],.agg #[.int .i64 3,.int .u8 yb,.int .i64 yl,.int .i64 1]] w0 fun e w'=> ∃ov v',e= .returned (.tuple #[ov,.int .i64 (if inwD n bs b then 0 else 7)])∧Made Win wb.heap.size w0.heap.size r n (bs++(if inwD n bs b then(copyL (b:Int).toNat bs (yl:Int).toNat)else [])) (if inwD n bs b then(copyL (b:Int).toNat bs (yl:Int).toNat)else []) ov v' w'∧Chg (Foot r v) w0 w'∧Moved w0 v v':=by
 have HS1:Hid (((w0.alloc (.cells #[.int .i64 sn,.int .i64 a,.int .i64 b,.int .i64 c,.int .i64 d] 88)).alloc (.cells #[.int .i64 3,.int .u8 yb,.int .i64 yl,.int .i64 1] 34)).heap[w0.heap.size]?=some (.cells #[.int .i64 sn,.int .i64 a,.int .i64 b,.int .i64 c,.int .i64 d] 88 (0,0))):=(Below.heap_alloc _ _ _ (by simp)).trans (heap_alloc_last w0 _)
 have HY1:Hid (((w0.alloc (.cells #[.int .i64 sn,.int .i64 a,.int .i64 b,.int .i64 c,.int .i64 d] 88)).alloc (.cells #[.int .i64 3,.int .u8 yb,.int .i64 yl,.int .i64 1] 34)).heap[w0.heap.size+1]?=some (.cells #[.int .i64 3,.int .u8 yb,.int .i64 yl,.int .i64 1] 34 (0,0))):=by
  have:=heap_alloc_last (w0.alloc (.cells #[.int .i64 sn,.int .i64 a,.int .i64 b,.int .i64 c,.int .i64 d] 88)) (.cells #[.int .i64 3,.int .u8 yb,.int .i64 yl,.int .i64 1] 34)
  rw [World.size_alloc]at this
  exact this
 have HC1:Hid (Chg (fun _=>False) w0 ((w0.alloc (.cells #[.int .i64 sn,.int .i64 a,.int .i64 b,.int .i64 c,.int .i64 d] 88)).alloc (.cells #[.int .i64 3,.int .u8 yb,.int .i64 yl,.int .i64 1] 34))):=chg_then (chg_one _ _) (chg_one _ _)
 have HLR:Hid (∀z,Foot r v z→z<w0.heap.size):=fun z f=>(S.lt h z f).2
 have HRW:Hid (Win w0 wb.heap.size r v n bs):=h
 have HRW1:Hid (Win ((w0.alloc (.cells #[.int .i64 sn,.int .i64 a,.int .i64 b,.int .i64 c,.int .i64 d] 88)).alloc (.cells #[.int .i64 3,.int .u8 yb,.int .i64 yl,.int .i64 1] 34)) wb.heap.size r v n bs):=S.new h HC1.out
 have HBB:Hid (wb.heap.size≤w0.heap.size):=hB
 have hk:=formed_kind hf
 simp at hk
 have HSZ:Hid ((0:Int)≤yl∧(yl:Int)≤273):=by constructor<;>omega
 have HI:Hid (I64 b∧I64 yl):=⟨hs.b,by have:=HSZ.out;unfold I64;omega⟩
 have HLQ:Hid (∀w_,Calls Tryz.prog 127 #[.agg #[.int .i64 3,.int .u8 yb,.int .i64 yl,.int .i64 1]] w_ fun e w'=>e= .returned (.int .i64 yl)∧Chg (fun _=>False) w_ w'):=fun w_=>by
  have h9:=tlen_q 3 yb yl 1 hf w_
  rw [show sizeA ⟨3,yb,yl,1⟩=yl from by unfold sizeA;rw [if_neg (by simp [hf])];rfl]at h9
  exact h9
 obtain⟨s0,s1,s2,s3,s4⟩:=cells5 HS1.out
 obtain⟨y0,y1,y2,y3⟩:=cells4y HY1.out
 clear hs hy hf hB h hk
 go_enter Tryz.func80,Tryz.ntmps80
 go_wp2_with fail
 generalize (w0.alloc (.cells #[.int .i64 sn,.int .i64 a,.int .i64 b,.int .i64 c,.int .i64 d] 88)).alloc (.cells #[.int .i64 3,.int .u8 yb,.int .i64 yl,.int .i64 1] 34)=W1 at*
 clear s0 s1 s2 s3 s4 y0 y1 y2 y3
 by_cases hi:inwD n bs b
 ·have HIN:Hid (inwD n bs b):=hi
  clear hi
  refine wp_region_setM (mk:=fun u=> #[_,_,_,_,_,_,u 6,_,_,_,_,_,_,_,_,_,_,_,_,_,_,_,u 22,u 23,u 24,u 25,u 26,u 27,u 28,u 29,u 30,u 31,u 32,_,_,_,_,_,_,_,_,_,_,_,_,_,_,_,_,_,_,_]) (G:=lookG [(22,.pointer (some ⟨r,0,none⟩)),(23,.pointer (some ⟨w0.heap.size+1,3,none⟩)),(24,.int .i64 1),(25,.pointer (some ⟨w0.heap.size,1,none⟩)),(26,.pointer (some ⟨w0.heap.size,2,none⟩)),(27,.int .i64 b),(28,.agg #[.int .i64 3,.int .u8 yb,.int .i64 yl,.int .i64 1]),(29,.int .i64 yl)]) (J:=fun L_ u ww=>Chg (Foot r v) W1 ww∧((L_ 8=false∧L_ 9=false∧L_ 10=false∧L_ 11=false∧Chg (fun _=>False) W1 ww)∨(L_ 7=true∧L_ 8=true∧ ∃ov v',u 30= .tuple #[ov,.int .i64 0]∧(L_ 9=true→u 31=ov)∧(L_ 10=true→u 32= .int .i64 0)∧(L_ 11=true→u 6=ov)∧(Made Win wb.heap.size w0.heap.size r n (bs++(copyL (b:Int).toNat bs (yl:Int).toNat)) (copyL (b:Int).toNat bs (yl:Int).toNat) ov v' ww∧Moved w0 v v')))) [7,8,9,10,11] ([]) (fun t=>if t=6 then .slice none 0 0 else if t=7 then .int .i64 0 else undef) rfl (by kernel_rfl) 12 _ rfl rfl (by kernel_rfl) (by kernel_rfl) ?_ ?_ ?_ ?_ ?_
  ·repeat (refine⟨fun _ _=>rfl,?_⟩)
   exact trivial
  ·intro L_ L2 u u2 ww h hj
   have l7_:L_ 7=L2 7:=(h 7 (by decide)).1
   have l8_:L_ 8=L2 8:=(h 8 (by decide)).1
   have e8_:u 30=u2 30:=(h 8 (by decide)).2
   have l9_:L_ 9=L2 9:=(h 9 (by decide)).1
   have e9_:u 31=u2 31:=(h 9 (by decide)).2
   have l10_:L_ 10=L2 10:=(h 10 (by decide)).1
   have e10_:u 32=u2 32:=(h 10 (by decide)).2
   have l11_:L_ 11=L2 11:=(h 11 (by decide)).1
   have e11_:u 6=u2 6:=(h 11 (by decide)).2
   show _∧_
   rw [←l7_,←l8_,←e8_,←l9_,←e9_,←l10_,←e10_,←l11_,←e11_]
   exact hj
  ·exact⟨(Chg.refl _ W1).drew,.inl ⟨rfl,rfl,rfl,rfl,(Chg.refl _ W1).drew⟩⟩
  ·refine⟨?_,?_,?_,?_,?_,?_,?_,?_,?_,?_,?_,?_,trivial⟩
   ·show StepRS _ _ _ _ _ _ _ _
    unfold StepRS
    intro L_ u w_ hj hd K hK
    clear hd
    have hc:=hj.1
    clear hj hc
    go_simp
    exact hK.out _ rfl
   ·show StepRS _ _ _ _ _ _ _ _
    unfold StepRS
    intro L_ u w_ hj hd K hK
    clear hd
    have hc:=hj.1
    clear hj hc
    go_simp
    exact hK.out _ rfl
   ·show StepRS _ _ _ _ _ _ _ _
    unfold StepRS
    intro L_ u w_ hj hd K hK
    have h23:u 23= .pointer (some ⟨w0.heap.size+1,3,none⟩):=hd.get 1 (by kernel_rfl)
    clear hd
    simp only [h23]at hK
    have hc:=hj.1
    obtain⟨x0,x1,x2,x3⟩:=cells4y (blk_keep HY1.out hc (fun f=>by have:=HLR.out _ f;omega))
    clear hj hc
    go_simp
    exact hK.out _ rfl
   ·show StepRS _ _ _ _ _ _ _ _
    unfold StepRS
    intro L_ u w_ hj hd K hK
    clear hd
    have hc:=hj.1
    clear hj hc
    go_simp
    exact hK.out _ rfl
   ·show StepRS _ _ _ _ _ _ _ _
    unfold StepRS
    intro L_ u w_ hj hd K hK
    have h25:u 25= .pointer (some ⟨w0.heap.size,1,none⟩):=hd.get 3 (by kernel_rfl)
    have h24:u 24= .int .i64 1:=hd.get 2 (by kernel_rfl)
    clear hd
    simp only [h25,h24]at hK
    have hc:=hj.1
    clear hj hc
    go_simp
    exact hK.out _ rfl
   ·show StepRS _ _ _ _ _ _ _ _
    unfold StepRS
    intro L_ u w_ hj hd K hK
    have h26:u 26= .pointer (some ⟨w0.heap.size,2,none⟩):=hd.get 4 (by kernel_rfl)
    clear hd
    simp only [h26]at hK
    have hc:=hj.1
    obtain⟨x0,x1,x2,x3,x4⟩:=cells5 (blk_keep HS1.out hc (fun f=>by have:=HLR.out _ f;omega))
    clear hj hc
    go_simp
    exact hK.out _ rfl
   ·show StepRS _ _ _ _ _ _ _ _
    unfold StepRS
    intro L_ u w_ hj hd K hK
    clear hd
    have hc:=hj.1
    obtain⟨x0,x1,x2,x3⟩:=cells4y (blk_keep HY1.out hc (fun f=>by have:=HLR.out _ f;omega))
    clear hj hc
    go_simp
    exact hK.out _ rfl
   ·show StepWS _ _ _ _ _ _ _ _ _
    unfold StepWS
    intro L_ u w_ hj hli hwt hd K hK
    have h28:u 28= .agg #[.int .i64 3,.int .u8 yb,.int .i64 yl,.int .i64 1]:=hd.get 6 (by kernel_rfl)
    clear hd
    simp only [h28]at hK
    obtain⟨hc,hm⟩:=hj
    rcases hm with⟨n30,n31,n32,n6,hF⟩|⟨l29,l30,_⟩
    ·go_simp
     refine Calls.mono (HLQ.out w_) ?_
     rintro z w2 ⟨rfl,c2⟩
     exact hK.out _ w2 ⟨hc.trans c2 (fun _ f=>f.elim),.inl ⟨n30,n31,n32,n6,chg_then hF c2⟩⟩ rfl
    ·rw [l29]at hli;cases hli
   ·show StepWS _ _ _ _ _ _ _ _ _
    unfold StepWS
    intro L_ u w_ hj hli hwt hd K hK
    have h22:u 22= .pointer (some ⟨r,0,none⟩):=hd.get 0 (by kernel_rfl)
    have h27:u 27= .int .i64 b:=hd.get 5 (by kernel_rfl)
    have h29:u 29= .int .i64 yl:=hd.get 7 (by kernel_rfl)
    clear hd
    simp only [h22,h27,h29]at hK
    obtain⟨hc,hm⟩:=hj
    rcases hm with⟨n30,n31,n32,n6,hF⟩|⟨l29,l30,_⟩
    ·have m31: ¬L_ 9=true:=by rw [n31];decide
     have m32: ¬L_ 10=true:=by rw [n32];decide
     have m6: ¬L_ 11=true:=by rw [n6];decide
     have l29:L_ 7=true:=hwt ⟨7,.data⟩ (by simp) rfl
     go_simp
     refine Calls.mono (S.copy wb.heap.size r v n bs b yl w_ (S.new HRW1.out hF) (by have:=HBB.out;have:=HC1.out.size;have:=hF.size;omega) HI.out.1 HI.out.2 hl) ?_
     rintro z w2 (⟨hno,_⟩|⟨_,ov,v',rfl,hqw,hqo,hqa,c2,hqm⟩)
     ·exact absurd ⟨HIN.out,HSZ.out⟩ hno
     exact hK.out _ w2 ⟨hc.trans c2 (fun z f=> .inl f),.inr ⟨l29,rfl,ov,v',rfl,(fun e=>absurd e m31),(fun e=>absurd e m32),(fun e=>absurd e m6),⟨⟨hqw,by rw [copyL_len];exact owns_base hqo (Nat.le_trans HC1.out.size hF.size),hqa⟩,moved_from (Nat.le_trans HC1.out.size hF.size) hqm⟩⟩⟩ trivial
    ·rw [l30]at hli;cases hli
   ·show StepWS _ _ _ _ _ _ _ _ _
    unfold StepWS
    intro L_ u w_ hj hli hwt hd K hK
    clear hd
    obtain⟨hc,hm⟩:=hj
    have lopr:L_ 8=true:=hwt ⟨8,.data⟩ (by simp) rfl
    rcases hm with⟨n30,n31,n32,n6,hF⟩|⟨l29,l30,ov,v',e30,q31,q32,q6,hp⟩
    ·rw [n30]at lopr;cases lopr
    ·have eo:=e30
     have HPH:Hid _:=hp
     clear hp
     simp only [eo]at hK⊢
     go_simp
     exact hK.out _ _ ⟨hc,.inr ⟨l29,l30,ov,v',e30,(fun _=>rfl),q32,q6,HPH.out⟩⟩ trivial
   ·show StepWS _ _ _ _ _ _ _ _ _
    unfold StepWS
    intro L_ u w_ hj hli hwt hd K hK
    clear hd
    obtain⟨hc,hm⟩:=hj
    have lopr:L_ 8=true:=hwt ⟨8,.data⟩ (by simp) rfl
    rcases hm with⟨n30,n31,n32,n6,hF⟩|⟨l29,l30,ov,v',e30,q31,q32,q6,hp⟩
    ·rw [n30]at lopr;cases lopr
    ·have eo:=e30
     have HPH:Hid _:=hp
     clear hp
     simp only [eo]at hK⊢
     go_simp
     exact hK.out _ _ ⟨hc,.inr ⟨l29,l30,ov,v',e30,q31,(fun _=>rfl),q6,HPH.out⟩⟩ trivial
   ·show StepWS _ _ _ _ _ _ _ _ _
    unfold StepWS
    intro L_ u w_ hj hli hwt hd K hK
    clear hd
    obtain⟨hc,hm⟩:=hj
    have lopr:L_ 9=true:=hwt ⟨9,.data⟩ (by simp) rfl
    rcases hm with⟨n30,n31,n32,n6,hF⟩|⟨l29,l30,ov,v',e30,q31,q32,q6,hp⟩
    ·rw [n31]at lopr;cases lopr
    ·have eo:=q31 lopr
     have HPH:Hid _:=hp
     clear hp
     simp only [eo,e30]at hK⊢
     go_simp
     exact hK.out _ _ ⟨hc,.inr ⟨l29,l30,ov,v',e30,q31,q32,(fun _=>rfl),HPH.out⟩⟩ trivial
  ·intro u w7 hj hA K hK
   obtain⟨hc7,hm⟩:=hj
   rcases hm with⟨nn,_⟩|⟨_,_,ov,v',eM,q0,q1,q6,hp⟩
   ·cases nn
   have e6:u 6=ov:=q6 rfl
   have e1:u 32= .int .i64 0:=q1 rfl
   have HM:Hid _:=hp.1
   have HMV:Hid (Moved w0 v v'):=hp.2
   have HC2:Hid (Chg (Foot r v) w0 w7):=(HC1.out.mono (fun _ f=>f.elim)).trans hc7 (fun z f=> .inl f)
   clear hA hc7 eM q0 q1 q6 hp HS1 HY1 HC1 HRW1
   simp only [e6,e1]
   go_simp
   refine hK.out _ _ ?_
   clear hK e6 e1
   go_wp2
   go_ret2
   exact⟨_,rfl,v',HM.out,HC2.out,HMV.out⟩
 ·have HIN:Hid (¬inwD n bs b):=hi
  clear hi
  refine wp_region_setM (mk:=fun u=> #[_,_,_,_,_,_,u 6,_,_,_,_,_,_,_,_,_,_,_,_,_,_,_,u 22,u 23,u 24,u 25,u 26,u 27,u 28,u 29,u 30,u 31,u 32,_,_,_,_,_,_,_,_,_,_,_,_,_,_,_,_,_,_,_]) (G:=lookG [(22,.pointer (some ⟨r,0,none⟩)),(23,.pointer (some ⟨w0.heap.size+1,3,none⟩)),(24,.int .i64 1),(25,.pointer (some ⟨w0.heap.size,1,none⟩)),(26,.pointer (some ⟨w0.heap.size,2,none⟩)),(27,.int .i64 b),(28,.agg #[.int .i64 3,.int .u8 yb,.int .i64 yl,.int .i64 1]),(29,.int .i64 yl)]) (J:=fun L_ u ww=>Chg (Foot r v) W1 ww∧((L_ 8=false∧L_ 9=false∧L_ 10=false∧L_ 11=false∧Chg (fun _=>False) W1 ww)∨(L_ 7=true∧L_ 8=true∧ ∃ov,u 30= .tuple #[ov,.int .i64 7]∧(L_ 9=true→u 31=ov)∧(L_ 10=true→u 32= .int .i64 7)∧(L_ 11=true→u 6=ov)∧(ov= .slice none 0 0∧Chg (fun _=>False) W1 ww)))) [7,8,9,10,11] ([]) (fun t=>if t=6 then .slice none 0 0 else if t=7 then .int .i64 0 else undef) rfl (by kernel_rfl) 12 _ rfl rfl (by kernel_rfl) (by kernel_rfl) ?_ ?_ ?_ ?_ ?_
  ·repeat (refine⟨fun _ _=>rfl,?_⟩)
   exact trivial
  ·intro L_ L2 u u2 ww h hj
   have l7_:L_ 7=L2 7:=(h 7 (by decide)).1
   have l8_:L_ 8=L2 8:=(h 8 (by decide)).1
   have e8_:u 30=u2 30:=(h 8 (by decide)).2
   have l9_:L_ 9=L2 9:=(h 9 (by decide)).1
   have e9_:u 31=u2 31:=(h 9 (by decide)).2
   have l10_:L_ 10=L2 10:=(h 10 (by decide)).1
   have e10_:u 32=u2 32:=(h 10 (by decide)).2
   have l11_:L_ 11=L2 11:=(h 11 (by decide)).1
   have e11_:u 6=u2 6:=(h 11 (by decide)).2
   show _∧_
   rw [←l7_,←l8_,←e8_,←l9_,←e9_,←l10_,←e10_,←l11_,←e11_]
   exact hj
  ·exact⟨(Chg.refl _ W1).drew,.inl ⟨rfl,rfl,rfl,rfl,(Chg.refl _ W1).drew⟩⟩
  ·refine⟨?_,?_,?_,?_,?_,?_,?_,?_,?_,?_,?_,?_,trivial⟩
   ·show StepRS _ _ _ _ _ _ _ _
    unfold StepRS
    intro L_ u w_ hj hd K hK
    clear hd
    have hc:=hj.1
    clear hj hc
    go_simp
    exact hK.out _ rfl
   ·show StepRS _ _ _ _ _ _ _ _
    unfold StepRS
    intro L_ u w_ hj hd K hK
    clear hd
    have hc:=hj.1
    clear hj hc
    go_simp
    exact hK.out _ rfl
   ·show StepRS _ _ _ _ _ _ _ _
    unfold StepRS
    intro L_ u w_ hj hd K hK
    have h23:u 23= .pointer (some ⟨w0.heap.size+1,3,none⟩):=hd.get 1 (by kernel_rfl)
    clear hd
    simp only [h23]at hK
    have hc:=hj.1
    obtain⟨x0,x1,x2,x3⟩:=cells4y (blk_keep HY1.out hc (fun f=>by have:=HLR.out _ f;omega))
    clear hj hc
    go_simp
    exact hK.out _ rfl
   ·show StepRS _ _ _ _ _ _ _ _
    unfold StepRS
    intro L_ u w_ hj hd K hK
    clear hd
    have hc:=hj.1
    clear hj hc
    go_simp
    exact hK.out _ rfl
   ·show StepRS _ _ _ _ _ _ _ _
    unfold StepRS
    intro L_ u w_ hj hd K hK
    have h25:u 25= .pointer (some ⟨w0.heap.size,1,none⟩):=hd.get 3 (by kernel_rfl)
    have h24:u 24= .int .i64 1:=hd.get 2 (by kernel_rfl)
    clear hd
    simp only [h25,h24]at hK
    have hc:=hj.1
    clear hj hc
    go_simp
    exact hK.out _ rfl
   ·show StepRS _ _ _ _ _ _ _ _
    unfold StepRS
    intro L_ u w_ hj hd K hK
    have h26:u 26= .pointer (some ⟨w0.heap.size,2,none⟩):=hd.get 4 (by kernel_rfl)
    clear hd
    simp only [h26]at hK
    have hc:=hj.1
    obtain⟨x0,x1,x2,x3,x4⟩:=cells5 (blk_keep HS1.out hc (fun f=>by have:=HLR.out _ f;omega))
    clear hj hc
    go_simp
    exact hK.out _ rfl
   ·show StepRS _ _ _ _ _ _ _ _
    unfold StepRS
    intro L_ u w_ hj hd K hK
    clear hd
    have hc:=hj.1
    obtain⟨x0,x1,x2,x3⟩:=cells4y (blk_keep HY1.out hc (fun f=>by have:=HLR.out _ f;omega))
    clear hj hc
    go_simp
    exact hK.out _ rfl
   ·show StepWS _ _ _ _ _ _ _ _ _
    unfold StepWS
    intro L_ u w_ hj hli hwt hd K hK
    have h28:u 28= .agg #[.int .i64 3,.int .u8 yb,.int .i64 yl,.int .i64 1]:=hd.get 6 (by kernel_rfl)
    clear hd
    simp only [h28]at hK
    obtain⟨hc,hm⟩:=hj
    rcases hm with⟨n30,n31,n32,n6,hF⟩|⟨l29,l30,_⟩
    ·go_simp
     refine Calls.mono (HLQ.out w_) ?_
     rintro z w2 ⟨rfl,c2⟩
     exact hK.out _ w2 ⟨hc.trans c2 (fun _ f=>f.elim),.inl ⟨n30,n31,n32,n6,chg_then hF c2⟩⟩ rfl
    ·rw [l29]at hli;cases hli
   ·show StepWS _ _ _ _ _ _ _ _ _
    unfold StepWS
    intro L_ u w_ hj hli hwt hd K hK
    have h22:u 22= .pointer (some ⟨r,0,none⟩):=hd.get 0 (by kernel_rfl)
    have h27:u 27= .int .i64 b:=hd.get 5 (by kernel_rfl)
    have h29:u 29= .int .i64 yl:=hd.get 7 (by kernel_rfl)
    clear hd
    simp only [h22,h27,h29]at hK
    obtain⟨hc,hm⟩:=hj
    rcases hm with⟨n30,n31,n32,n6,hF⟩|⟨l29,l30,_⟩
    ·have m31: ¬L_ 9=true:=by rw [n31];decide
     have m32: ¬L_ 10=true:=by rw [n32];decide
     have m6: ¬L_ 11=true:=by rw [n6];decide
     have l29:L_ 7=true:=hwt ⟨7,.data⟩ (by simp) rfl
     go_simp
     refine Calls.mono (S.copy wb.heap.size r v n bs b yl w_ (S.new HRW1.out hF) (by have:=HBB.out;have:=HC1.out.size;have:=hF.size;omega) HI.out.1 HI.out.2 hl) ?_
     rintro z w2 (⟨_,rfl,c3⟩|⟨hin,_⟩)
     rotate_left
     ·exact absurd hin.1 HIN.out
     have c2:Chg (Foot r v) w_ w2:=c3.mono (fun _ f=>f.elim)
     exact hK.out _ w2 ⟨hc.trans c2 (fun z f=> .inl f),.inr ⟨l29,rfl,_,rfl,(fun e=>absurd e m31),(fun e=>absurd e m32),(fun e=>absurd e m6),⟨rfl,chg_then hF c3⟩⟩⟩ trivial
    ·rw [l30]at hli;cases hli
   ·show StepWS _ _ _ _ _ _ _ _ _
    unfold StepWS
    intro L_ u w_ hj hli hwt hd K hK
    clear hd
    obtain⟨hc,hm⟩:=hj
    have lopr:L_ 8=true:=hwt ⟨8,.data⟩ (by simp) rfl
    rcases hm with⟨n30,n31,n32,n6,hF⟩|⟨l29,l30,ov,e30,q31,q32,q6,hp⟩
    ·rw [n30]at lopr;cases lopr
    ·have eo:=e30
     have HPH:Hid _:=hp
     clear hp
     simp only [eo]at hK⊢
     go_simp
     exact hK.out _ _ ⟨hc,.inr ⟨l29,l30,ov,e30,(fun _=>rfl),q32,q6,HPH.out⟩⟩ trivial
   ·show StepWS _ _ _ _ _ _ _ _ _
    unfold StepWS
    intro L_ u w_ hj hli hwt hd K hK
    clear hd
    obtain⟨hc,hm⟩:=hj
    have lopr:L_ 8=true:=hwt ⟨8,.data⟩ (by simp) rfl
    rcases hm with⟨n30,n31,n32,n6,hF⟩|⟨l29,l30,ov,e30,q31,q32,q6,hp⟩
    ·rw [n30]at lopr;cases lopr
    ·have eo:=e30
     have HPH:Hid _:=hp
     clear hp
     simp only [eo]at hK⊢
     go_simp
     exact hK.out _ _ ⟨hc,.inr ⟨l29,l30,ov,e30,q31,(fun _=>rfl),q6,HPH.out⟩⟩ trivial
   ·show StepWS _ _ _ _ _ _ _ _ _
    unfold StepWS
    intro L_ u w_ hj hli hwt hd K hK
    clear hd
    obtain⟨hc,hm⟩:=hj
    have lopr:L_ 9=true:=hwt ⟨9,.data⟩ (by simp) rfl
    rcases hm with⟨n30,n31,n32,n6,hF⟩|⟨l29,l30,ov,e30,q31,q32,q6,hp⟩
    ·rw [n31]at lopr;cases lopr
    ·have eo:=q31 lopr
     have HPH:Hid _:=hp
     clear hp
     simp only [eo,e30]at hK⊢
     go_simp
     exact hK.out _ _ ⟨hc,.inr ⟨l29,l30,ov,e30,q31,q32,(fun _=>rfl),HPH.out⟩⟩ trivial
  ·intro u w7 hj hA K hK
   obtain⟨hc7,hm⟩:=hj
   rcases hm with⟨nn,_⟩|⟨_,_,ov,eM,q0,q1,q6,hov,hp⟩
   ·cases nn
   have e6:u 6=ov:=q6 rfl
   have e1:u 32= .int .i64 7:=q1 rfl
   subst hov
   have HC2:Hid (Chg (fun _=>False) w0 w7):=chg_then HC1.out hp
   clear hA hc7 eM q0 q1 q6 hp HS1 HY1 HC1 HRW1
   simp only [e6,e1]
   go_simp
   refine hK.out _ _ ?_
   clear hK e6 e1
   go_wp2
   go_ret2
   refine⟨_,rfl,v,⟨?_,World.ownsRow_nil _ _ _ _,fun g e=>(nomatch e)⟩,HC2.out.mono (fun _ f=>f.elim),fun g e=> .inl e⟩
   exact S.new HRW.out HC2.out
set_option maxHeartbeats 4000000 in
set_option maxRecDepth 100000 in
theorem tlay_rep2 (S:WinSpec Win)(wb:World)(r:Nat)(v:Value)(n:Nat)(bs:List Nat)(sn a b c d yb yl:Int)(hs:(⟨sn,a,b,c,d⟩:Stt).I)(hy:(⟨3,yb,yl,2⟩:Sym).I)(hf:formed ⟨3,yb,yl,2⟩=0)(w0:World)(hB:wb.heap.size≤w0.heap.size)(h:Win w0 wb.heap.size r v n bs)(hl:bs.length+273≤1152921504606846976):Calls Tryz.prog 80 #[.pointer (some ⟨r,0,none⟩),.agg #[.int .i64 sn,.int .i64 a,.int .i64 b,.int .i64 c,.int .i64 d],.agg #[.int .i64 3,.int .u8 yb,.int .i64 yl,.int .i64 2]] w0 fun e w'=> ∃ov v',e= .returned (.tuple #[ov,.int .i64 (if inwD n bs c then 0 else 7)])∧Made Win wb.heap.size w0.heap.size r n (bs++(if inwD n bs c then(copyL (c:Int).toNat bs (yl:Int).toNat)else [])) (if inwD n bs c then(copyL (c:Int).toNat bs (yl:Int).toNat)else []) ov v' w'∧Chg (Foot r v) w0 w'∧Moved w0 v v':=by
 have HS1:Hid (((w0.alloc (.cells #[.int .i64 sn,.int .i64 a,.int .i64 b,.int .i64 c,.int .i64 d] 88)).alloc (.cells #[.int .i64 3,.int .u8 yb,.int .i64 yl,.int .i64 2] 34)).heap[w0.heap.size]?=some (.cells #[.int .i64 sn,.int .i64 a,.int .i64 b,.int .i64 c,.int .i64 d] 88 (0,0))):=(Below.heap_alloc _ _ _ (by simp)).trans (heap_alloc_last w0 _)
 have HY1:Hid (((w0.alloc (.cells #[.int .i64 sn,.int .i64 a,.int .i64 b,.int .i64 c,.int .i64 d] 88)).alloc (.cells #[.int .i64 3,.int .u8 yb,.int .i64 yl,.int .i64 2] 34)).heap[w0.heap.size+1]?=some (.cells #[.int .i64 3,.int .u8 yb,.int .i64 yl,.int .i64 2] 34 (0,0))):=by
  have:=heap_alloc_last (w0.alloc (.cells #[.int .i64 sn,.int .i64 a,.int .i64 b,.int .i64 c,.int .i64 d] 88)) (.cells #[.int .i64 3,.int .u8 yb,.int .i64 yl,.int .i64 2] 34)
  rw [World.size_alloc]at this
  exact this
 have HC1:Hid (Chg (fun _=>False) w0 ((w0.alloc (.cells #[.int .i64 sn,.int .i64 a,.int .i64 b,.int .i64 c,.int .i64 d] 88)).alloc (.cells #[.int .i64 3,.int .u8 yb,.int .i64 yl,.int .i64 2] 34))):=chg_then (chg_one _ _) (chg_one _ _)
 have HLR:Hid (∀z,Foot r v z→z<w0.heap.size):=fun z f=>(S.lt h z f).2
 have HRW:Hid (Win w0 wb.heap.size r v n bs):=h
 have HRW1:Hid (Win ((w0.alloc (.cells #[.int .i64 sn,.int .i64 a,.int .i64 b,.int .i64 c,.int .i64 d] 88)).alloc (.cells #[.int .i64 3,.int .u8 yb,.int .i64 yl,.int .i64 2] 34)) wb.heap.size r v n bs):=S.new h HC1.out
 have HBB:Hid (wb.heap.size≤w0.heap.size):=hB
 have hk:=formed_kind hf
 simp at hk
 have HSZ:Hid ((0:Int)≤yl∧(yl:Int)≤273):=by constructor<;>omega
 have HI:Hid (I64 c∧I64 yl):=⟨hs.c,by have:=HSZ.out;unfold I64;omega⟩
 have HLQ:Hid (∀w_,Calls Tryz.prog 127 #[.agg #[.int .i64 3,.int .u8 yb,.int .i64 yl,.int .i64 2]] w_ fun e w'=>e= .returned (.int .i64 yl)∧Chg (fun _=>False) w_ w'):=fun w_=>by
  have h9:=tlen_q 3 yb yl 2 hf w_
  rw [show sizeA ⟨3,yb,yl,2⟩=yl from by unfold sizeA;rw [if_neg (by simp [hf])];rfl]at h9
  exact h9
 obtain⟨s0,s1,s2,s3,s4⟩:=cells5 HS1.out
 obtain⟨y0,y1,y2,y3⟩:=cells4y HY1.out
 clear hs hy hf hB h hk
 go_enter Tryz.func80,Tryz.ntmps80
 go_wp2_with fail
 generalize (w0.alloc (.cells #[.int .i64 sn,.int .i64 a,.int .i64 b,.int .i64 c,.int .i64 d] 88)).alloc (.cells #[.int .i64 3,.int .u8 yb,.int .i64 yl,.int .i64 2] 34)=W1 at*
 clear s0 s1 s2 s3 s4 y0 y1 y2 y3
 by_cases hi:inwD n bs c
 ·have HIN:Hid (inwD n bs c):=hi
  clear hi
  refine wp_region_setM (mk:=fun u=> #[_,_,_,_,_,_,u 6,_,_,_,_,_,_,_,_,_,_,_,_,_,_,_,u 22,u 23,u 24,u 25,u 26,u 27,u 28,u 29,u 30,u 31,u 32,_,_,_,_,_,_,_,_,_,_,_,_,_,_,_,_,_,_,_]) (G:=lookG [(22,.pointer (some ⟨r,0,none⟩)),(23,.pointer (some ⟨w0.heap.size+1,3,none⟩)),(24,.int .i64 2),(25,.pointer (some ⟨w0.heap.size,1,none⟩)),(26,.pointer (some ⟨w0.heap.size,3,none⟩)),(27,.int .i64 c),(28,.agg #[.int .i64 3,.int .u8 yb,.int .i64 yl,.int .i64 2]),(29,.int .i64 yl)]) (J:=fun L_ u ww=>Chg (Foot r v) W1 ww∧((L_ 8=false∧L_ 9=false∧L_ 10=false∧L_ 11=false∧Chg (fun _=>False) W1 ww)∨(L_ 7=true∧L_ 8=true∧ ∃ov v',u 30= .tuple #[ov,.int .i64 0]∧(L_ 9=true→u 31=ov)∧(L_ 10=true→u 32= .int .i64 0)∧(L_ 11=true→u 6=ov)∧(Made Win wb.heap.size w0.heap.size r n (bs++(copyL (c:Int).toNat bs (yl:Int).toNat)) (copyL (c:Int).toNat bs (yl:Int).toNat) ov v' ww∧Moved w0 v v')))) [7,8,9,10,11] ([]) (fun t=>if t=6 then .slice none 0 0 else if t=7 then .int .i64 0 else undef) rfl (by kernel_rfl) 12 _ rfl rfl (by kernel_rfl) (by kernel_rfl) ?_ ?_ ?_ ?_ ?_
  ·repeat (refine⟨fun _ _=>rfl,?_⟩)
   exact trivial
  ·intro L_ L2 u u2 ww h hj
   have l7_:L_ 7=L2 7:=(h 7 (by decide)).1
   have l8_:L_ 8=L2 8:=(h 8 (by decide)).1
   have e8_:u 30=u2 30:=(h 8 (by decide)).2
   have l9_:L_ 9=L2 9:=(h 9 (by decide)).1
   have e9_:u 31=u2 31:=(h 9 (by decide)).2
   have l10_:L_ 10=L2 10:=(h 10 (by decide)).1
   have e10_:u 32=u2 32:=(h 10 (by decide)).2
   have l11_:L_ 11=L2 11:=(h 11 (by decide)).1
   have e11_:u 6=u2 6:=(h 11 (by decide)).2
   show _∧_
   rw [←l7_,←l8_,←e8_,←l9_,←e9_,←l10_,←e10_,←l11_,←e11_]
   exact hj
  ·exact⟨(Chg.refl _ W1).drew,.inl ⟨rfl,rfl,rfl,rfl,(Chg.refl _ W1).drew⟩⟩
  ·refine⟨?_,?_,?_,?_,?_,?_,?_,?_,?_,?_,?_,?_,trivial⟩
   ·show StepRS _ _ _ _ _ _ _ _
    unfold StepRS
    intro L_ u w_ hj hd K hK
    clear hd
    have hc:=hj.1
    clear hj hc
    go_simp
    exact hK.out _ rfl
   ·show StepRS _ _ _ _ _ _ _ _
    unfold StepRS
    intro L_ u w_ hj hd K hK
    clear hd
    have hc:=hj.1
    clear hj hc
    go_simp
    exact hK.out _ rfl
   ·show StepRS _ _ _ _ _ _ _ _
    unfold StepRS
    intro L_ u w_ hj hd K hK
    have h23:u 23= .pointer (some ⟨w0.heap.size+1,3,none⟩):=hd.get 1 (by kernel_rfl)
    clear hd
    simp only [h23]at hK
    have hc:=hj.1
    obtain⟨x0,x1,x2,x3⟩:=cells4y (blk_keep HY1.out hc (fun f=>by have:=HLR.out _ f;omega))
    clear hj hc
    go_simp
    exact hK.out _ rfl
   ·show StepRS _ _ _ _ _ _ _ _
    unfold StepRS
    intro L_ u w_ hj hd K hK
    clear hd
    have hc:=hj.1
    clear hj hc
    go_simp
    exact hK.out _ rfl
   ·show StepRS _ _ _ _ _ _ _ _
    unfold StepRS
    intro L_ u w_ hj hd K hK
    have h25:u 25= .pointer (some ⟨w0.heap.size,1,none⟩):=hd.get 3 (by kernel_rfl)
    have h24:u 24= .int .i64 2:=hd.get 2 (by kernel_rfl)
    clear hd
    simp only [h25,h24]at hK
    have hc:=hj.1
    clear hj hc
    go_simp
    exact hK.out _ rfl
   ·show StepRS _ _ _ _ _ _ _ _
    unfold StepRS
    intro L_ u w_ hj hd K hK
    have h26:u 26= .pointer (some ⟨w0.heap.size,3,none⟩):=hd.get 4 (by kernel_rfl)
    clear hd
    simp only [h26]at hK
    have hc:=hj.1
    obtain⟨x0,x1,x2,x3,x4⟩:=cells5 (blk_keep HS1.out hc (fun f=>by have:=HLR.out _ f;omega))
    clear hj hc
    go_simp
    exact hK.out _ rfl
   ·show StepRS _ _ _ _ _ _ _ _
    unfold StepRS
    intro L_ u w_ hj hd K hK
    clear hd
    have hc:=hj.1
    obtain⟨x0,x1,x2,x3⟩:=cells4y (blk_keep HY1.out hc (fun f=>by have:=HLR.out _ f;omega))
    clear hj hc
    go_simp
    exact hK.out _ rfl
   ·show StepWS _ _ _ _ _ _ _ _ _
    unfold StepWS
    intro L_ u w_ hj hli hwt hd K hK
    have h28:u 28= .agg #[.int .i64 3,.int .u8 yb,.int .i64 yl,.int .i64 2]:=hd.get 6 (by kernel_rfl)
    clear hd
    simp only [h28]at hK
    obtain⟨hc,hm⟩:=hj
    rcases hm with⟨n30,n31,n32,n6,hF⟩|⟨l29,l30,_⟩
    ·go_simp
     refine Calls.mono (HLQ.out w_) ?_
     rintro z w2 ⟨rfl,c2⟩
     exact hK.out _ w2 ⟨hc.trans c2 (fun _ f=>f.elim),.inl ⟨n30,n31,n32,n6,chg_then hF c2⟩⟩ rfl
    ·rw [l29]at hli;cases hli
   ·show StepWS _ _ _ _ _ _ _ _ _
    unfold StepWS
    intro L_ u w_ hj hli hwt hd K hK
    have h22:u 22= .pointer (some ⟨r,0,none⟩):=hd.get 0 (by kernel_rfl)
    have h27:u 27= .int .i64 c:=hd.get 5 (by kernel_rfl)
    have h29:u 29= .int .i64 yl:=hd.get 7 (by kernel_rfl)
    clear hd
    simp only [h22,h27,h29]at hK
    obtain⟨hc,hm⟩:=hj
    rcases hm with⟨n30,n31,n32,n6,hF⟩|⟨l29,l30,_⟩
    ·have m31: ¬L_ 9=true:=by rw [n31];decide
     have m32: ¬L_ 10=true:=by rw [n32];decide
     have m6: ¬L_ 11=true:=by rw [n6];decide
     have l29:L_ 7=true:=hwt ⟨7,.data⟩ (by simp) rfl
     go_simp
     refine Calls.mono (S.copy wb.heap.size r v n bs c yl w_ (S.new HRW1.out hF) (by have:=HBB.out;have:=HC1.out.size;have:=hF.size;omega) HI.out.1 HI.out.2 hl) ?_
     rintro z w2 (⟨hno,_⟩|⟨_,ov,v',rfl,hqw,hqo,hqa,c2,hqm⟩)
     ·exact absurd ⟨HIN.out,HSZ.out⟩ hno
     exact hK.out _ w2 ⟨hc.trans c2 (fun z f=> .inl f),.inr ⟨l29,rfl,ov,v',rfl,(fun e=>absurd e m31),(fun e=>absurd e m32),(fun e=>absurd e m6),⟨⟨hqw,by rw [copyL_len];exact owns_base hqo (Nat.le_trans HC1.out.size hF.size),hqa⟩,moved_from (Nat.le_trans HC1.out.size hF.size) hqm⟩⟩⟩ trivial
    ·rw [l30]at hli;cases hli
   ·show StepWS _ _ _ _ _ _ _ _ _
    unfold StepWS
    intro L_ u w_ hj hli hwt hd K hK
    clear hd
    obtain⟨hc,hm⟩:=hj
    have lopr:L_ 8=true:=hwt ⟨8,.data⟩ (by simp) rfl
    rcases hm with⟨n30,n31,n32,n6,hF⟩|⟨l29,l30,ov,v',e30,q31,q32,q6,hp⟩
    ·rw [n30]at lopr;cases lopr
    ·have eo:=e30
     have HPH:Hid _:=hp
     clear hp
     simp only [eo]at hK⊢
     go_simp
     exact hK.out _ _ ⟨hc,.inr ⟨l29,l30,ov,v',e30,(fun _=>rfl),q32,q6,HPH.out⟩⟩ trivial
   ·show StepWS _ _ _ _ _ _ _ _ _
    unfold StepWS
    intro L_ u w_ hj hli hwt hd K hK
    clear hd
    obtain⟨hc,hm⟩:=hj
    have lopr:L_ 8=true:=hwt ⟨8,.data⟩ (by simp) rfl
    rcases hm with⟨n30,n31,n32,n6,hF⟩|⟨l29,l30,ov,v',e30,q31,q32,q6,hp⟩
    ·rw [n30]at lopr;cases lopr
    ·have eo:=e30
     have HPH:Hid _:=hp
     clear hp
     simp only [eo]at hK⊢
     go_simp
     exact hK.out _ _ ⟨hc,.inr ⟨l29,l30,ov,v',e30,q31,(fun _=>rfl),q6,HPH.out⟩⟩ trivial
   ·show StepWS _ _ _ _ _ _ _ _ _
    unfold StepWS
    intro L_ u w_ hj hli hwt hd K hK
    clear hd
    obtain⟨hc,hm⟩:=hj
    have lopr:L_ 9=true:=hwt ⟨9,.data⟩ (by simp) rfl
    rcases hm with⟨n30,n31,n32,n6,hF⟩|⟨l29,l30,ov,v',e30,q31,q32,q6,hp⟩
    ·rw [n31]at lopr;cases lopr
    ·have eo:=q31 lopr
     have HPH:Hid _:=hp
     clear hp
     simp only [eo,e30]at hK⊢
     go_simp
     exact hK.out _ _ ⟨hc,.inr ⟨l29,l30,ov,v',e30,q31,q32,(fun _=>rfl),HPH.out⟩⟩ trivial
  ·intro u w7 hj hA K hK
   obtain⟨hc7,hm⟩:=hj
   rcases hm with⟨nn,_⟩|⟨_,_,ov,v',eM,q0,q1,q6,hp⟩
   ·cases nn
   have e6:u 6=ov:=q6 rfl
   have e1:u 32= .int .i64 0:=q1 rfl
   have HM:Hid _:=hp.1
   have HMV:Hid (Moved w0 v v'):=hp.2
   have HC2:Hid (Chg (Foot r v) w0 w7):=(HC1.out.mono (fun _ f=>f.elim)).trans hc7 (fun z f=> .inl f)
   clear hA hc7 eM q0 q1 q6 hp HS1 HY1 HC1 HRW1
   simp only [e6,e1]
   go_simp
   refine hK.out _ _ ?_
   clear hK e6 e1
   go_wp2
   go_ret2
   exact⟨_,rfl,v',HM.out,HC2.out,HMV.out⟩
 ·have HIN:Hid (¬inwD n bs c):=hi
  clear hi
  refine wp_region_setM (mk:=fun u=> #[_,_,_,_,_,_,u 6,_,_,_,_,_,_,_,_,_,_,_,_,_,_,_,u 22,u 23,u 24,u 25,u 26,u 27,u 28,u 29,u 30,u 31,u 32,_,_,_,_,_,_,_,_,_,_,_,_,_,_,_,_,_,_,_]) (G:=lookG [(22,.pointer (some ⟨r,0,none⟩)),(23,.pointer (some ⟨w0.heap.size+1,3,none⟩)),(24,.int .i64 2),(25,.pointer (some ⟨w0.heap.size,1,none⟩)),(26,.pointer (some ⟨w0.heap.size,3,none⟩)),(27,.int .i64 c),(28,.agg #[.int .i64 3,.int .u8 yb,.int .i64 yl,.int .i64 2]),(29,.int .i64 yl)]) (J:=fun L_ u ww=>Chg (Foot r v) W1 ww∧((L_ 8=false∧L_ 9=false∧L_ 10=false∧L_ 11=false∧Chg (fun _=>False) W1 ww)∨(L_ 7=true∧L_ 8=true∧ ∃ov,u 30= .tuple #[ov,.int .i64 7]∧(L_ 9=true→u 31=ov)∧(L_ 10=true→u 32= .int .i64 7)∧(L_ 11=true→u 6=ov)∧(ov= .slice none 0 0∧Chg (fun _=>False) W1 ww)))) [7,8,9,10,11] ([]) (fun t=>if t=6 then .slice none 0 0 else if t=7 then .int .i64 0 else undef) rfl (by kernel_rfl) 12 _ rfl rfl (by kernel_rfl) (by kernel_rfl) ?_ ?_ ?_ ?_ ?_
  ·repeat (refine⟨fun _ _=>rfl,?_⟩)
   exact trivial
  ·intro L_ L2 u u2 ww h hj
   have l7_:L_ 7=L2 7:=(h 7 (by decide)).1
   have l8_:L_ 8=L2 8:=(h 8 (by decide)).1
   have e8_:u 30=u2 30:=(h 8 (by decide)).2
   have l9_:L_ 9=L2 9:=(h 9 (by decide)).1
   have e9_:u 31=u2 31:=(h 9 (by decide)).2
   have l10_:L_ 10=L2 10:=(h 10 (by decide)).1
   have e10_:u 32=u2 32:=(h 10 (by decide)).2
   have l11_:L_ 11=L2 11:=(h 11 (by decide)).1
   have e11_:u 6=u2 6:=(h 11 (by decide)).2
   show _∧_
   rw [←l7_,←l8_,←e8_,←l9_,←e9_,←l10_,←e10_,←l11_,←e11_]
   exact hj
  ·exact⟨(Chg.refl _ W1).drew,.inl ⟨rfl,rfl,rfl,rfl,(Chg.refl _ W1).drew⟩⟩
  ·refine⟨?_,?_,?_,?_,?_,?_,?_,?_,?_,?_,?_,?_,trivial⟩
   ·show StepRS _ _ _ _ _ _ _ _
    unfold StepRS
    intro L_ u w_ hj hd K hK
    clear hd
    have hc:=hj.1
    clear hj hc
    go_simp
    exact hK.out _ rfl
   ·show StepRS _ _ _ _ _ _ _ _
    unfold StepRS
    intro L_ u w_ hj hd K hK
    clear hd
    have hc:=hj.1
    clear hj hc
    go_simp
    exact hK.out _ rfl
   ·show StepRS _ _ _ _ _ _ _ _
    unfold StepRS
    intro L_ u w_ hj hd K hK
    have h23:u 23= .pointer (some ⟨w0.heap.size+1,3,none⟩):=hd.get 1 (by kernel_rfl)
    clear hd
    simp only [h23]at hK
    have hc:=hj.1
    obtain⟨x0,x1,x2,x3⟩:=cells4y (blk_keep HY1.out hc (fun f=>by have:=HLR.out _ f;omega))
    clear hj hc
    go_simp
    exact hK.out _ rfl
   ·show StepRS _ _ _ _ _ _ _ _
    unfold StepRS
    intro L_ u w_ hj hd K hK
    clear hd
    have hc:=hj.1
    clear hj hc
    go_simp
    exact hK.out _ rfl
   ·show StepRS _ _ _ _ _ _ _ _
    unfold StepRS
    intro L_ u w_ hj hd K hK
    have h25:u 25= .pointer (some ⟨w0.heap.size,1,none⟩):=hd.get 3 (by kernel_rfl)
    have h24:u 24= .int .i64 2:=hd.get 2 (by kernel_rfl)
    clear hd
    simp only [h25,h24]at hK
    have hc:=hj.1
    clear hj hc
    go_simp
    exact hK.out _ rfl
   ·show StepRS _ _ _ _ _ _ _ _
    unfold StepRS
    intro L_ u w_ hj hd K hK
    have h26:u 26= .pointer (some ⟨w0.heap.size,3,none⟩):=hd.get 4 (by kernel_rfl)
    clear hd
    simp only [h26]at hK
    have hc:=hj.1
    obtain⟨x0,x1,x2,x3,x4⟩:=cells5 (blk_keep HS1.out hc (fun f=>by have:=HLR.out _ f;omega))
    clear hj hc
    go_simp
    exact hK.out _ rfl
   ·show StepRS _ _ _ _ _ _ _ _
    unfold StepRS
    intro L_ u w_ hj hd K hK
    clear hd
    have hc:=hj.1
    obtain⟨x0,x1,x2,x3⟩:=cells4y (blk_keep HY1.out hc (fun f=>by have:=HLR.out _ f;omega))
    clear hj hc
    go_simp
    exact hK.out _ rfl
   ·show StepWS _ _ _ _ _ _ _ _ _
    unfold StepWS
    intro L_ u w_ hj hli hwt hd K hK
    have h28:u 28= .agg #[.int .i64 3,.int .u8 yb,.int .i64 yl,.int .i64 2]:=hd.get 6 (by kernel_rfl)
    clear hd
    simp only [h28]at hK
    obtain⟨hc,hm⟩:=hj
    rcases hm with⟨n30,n31,n32,n6,hF⟩|⟨l29,l30,_⟩
    ·go_simp
     refine Calls.mono (HLQ.out w_) ?_
     rintro z w2 ⟨rfl,c2⟩
     exact hK.out _ w2 ⟨hc.trans c2 (fun _ f=>f.elim),.inl ⟨n30,n31,n32,n6,chg_then hF c2⟩⟩ rfl
    ·rw [l29]at hli;cases hli
   ·show StepWS _ _ _ _ _ _ _ _ _
    unfold StepWS
    intro L_ u w_ hj hli hwt hd K hK
    have h22:u 22= .pointer (some ⟨r,0,none⟩):=hd.get 0 (by kernel_rfl)
    have h27:u 27= .int .i64 c:=hd.get 5 (by kernel_rfl)
    have h29:u 29= .int .i64 yl:=hd.get 7 (by kernel_rfl)
    clear hd
    simp only [h22,h27,h29]at hK
    obtain⟨hc,hm⟩:=hj
    rcases hm with⟨n30,n31,n32,n6,hF⟩|⟨l29,l30,_⟩
    ·have m31: ¬L_ 9=true:=by rw [n31];decide
     have m32: ¬L_ 10=true:=by rw [n32];decide
     have m6: ¬L_ 11=true:=by rw [n6];decide
     have l29:L_ 7=true:=hwt ⟨7,.data⟩ (by simp) rfl
     go_simp
     refine Calls.mono (S.copy wb.heap.size r v n bs c yl w_ (S.new HRW1.out hF) (by have:=HBB.out;have:=HC1.out.size;have:=hF.size;omega) HI.out.1 HI.out.2 hl) ?_
     rintro z w2 (⟨_,rfl,c3⟩|⟨hin,_⟩)
     rotate_left
     ·exact absurd hin.1 HIN.out
     have c2:Chg (Foot r v) w_ w2:=c3.mono (fun _ f=>f.elim)
     exact hK.out _ w2 ⟨hc.trans c2 (fun z f=> .inl f),.inr ⟨l29,rfl,_,rfl,(fun e=>absurd e m31),(fun e=>absurd e m32),(fun e=>absurd e m6),⟨rfl,chg_then hF c3⟩⟩⟩ trivial
    ·rw [l30]at hli;cases hli
   ·show StepWS _ _ _ _ _ _ _ _ _
    unfold StepWS
    intro L_ u w_ hj hli hwt hd K hK
    clear hd
    obtain⟨hc,hm⟩:=hj
    have lopr:L_ 8=true:=hwt ⟨8,.data⟩ (by simp) rfl
    rcases hm with⟨n30,n31,n32,n6,hF⟩|⟨l29,l30,ov,e30,q31,q32,q6,hp⟩
    ·rw [n30]at lopr;cases lopr
    ·have eo:=e30
     have HPH:Hid _:=hp
     clear hp
     simp only [eo]at hK⊢
     go_simp
     exact hK.out _ _ ⟨hc,.inr ⟨l29,l30,ov,e30,(fun _=>rfl),q32,q6,HPH.out⟩⟩ trivial
   ·show StepWS _ _ _ _ _ _ _ _ _
    unfold StepWS
    intro L_ u w_ hj hli hwt hd K hK
    clear hd
    obtain⟨hc,hm⟩:=hj
    have lopr:L_ 8=true:=hwt ⟨8,.data⟩ (by simp) rfl
    rcases hm with⟨n30,n31,n32,n6,hF⟩|⟨l29,l30,ov,e30,q31,q32,q6,hp⟩
    ·rw [n30]at lopr;cases lopr
    ·have eo:=e30
     have HPH:Hid _:=hp
     clear hp
     simp only [eo]at hK⊢
     go_simp
     exact hK.out _ _ ⟨hc,.inr ⟨l29,l30,ov,e30,q31,(fun _=>rfl),q6,HPH.out⟩⟩ trivial
   ·show StepWS _ _ _ _ _ _ _ _ _
    unfold StepWS
    intro L_ u w_ hj hli hwt hd K hK
    clear hd
    obtain⟨hc,hm⟩:=hj
    have lopr:L_ 9=true:=hwt ⟨9,.data⟩ (by simp) rfl
    rcases hm with⟨n30,n31,n32,n6,hF⟩|⟨l29,l30,ov,e30,q31,q32,q6,hp⟩
    ·rw [n31]at lopr;cases lopr
    ·have eo:=q31 lopr
     have HPH:Hid _:=hp
     clear hp
     simp only [eo,e30]at hK⊢
     go_simp
     exact hK.out _ _ ⟨hc,.inr ⟨l29,l30,ov,e30,q31,q32,(fun _=>rfl),HPH.out⟩⟩ trivial
  ·intro u w7 hj hA K hK
   obtain⟨hc7,hm⟩:=hj
   rcases hm with⟨nn,_⟩|⟨_,_,ov,eM,q0,q1,q6,hov,hp⟩
   ·cases nn
   have e6:u 6=ov:=q6 rfl
   have e1:u 32= .int .i64 7:=q1 rfl
   subst hov
   have HC2:Hid (Chg (fun _=>False) w0 w7):=chg_then HC1.out hp
   clear hA hc7 eM q0 q1 q6 hp HS1 HY1 HC1 HRW1
   simp only [e6,e1]
   go_simp
   refine hK.out _ _ ?_
   clear hK e6 e1
   go_wp2
   go_ret2
   refine⟨_,rfl,v,⟨?_,World.ownsRow_nil _ _ _ _,fun g e=>(nomatch e)⟩,HC2.out.mono (fun _ f=>f.elim),fun g e=> .inl e⟩
   exact S.new HRW.out HC2.out
set_option maxHeartbeats 4000000 in
set_option maxRecDepth 100000 in
theorem tlay_rep3 (S:WinSpec Win)(wb:World)(r:Nat)(v:Value)(n:Nat)(bs:List Nat)(sn a b c d yb yl:Int)(hs:(⟨sn,a,b,c,d⟩:Stt).I)(hy:(⟨3,yb,yl,3⟩:Sym).I)(hf:formed ⟨3,yb,yl,3⟩=0)(w0:World)(hB:wb.heap.size≤w0.heap.size)(h:Win w0 wb.heap.size r v n bs)(hl:bs.length+273≤1152921504606846976):Calls Tryz.prog 80 #[.pointer (some ⟨r,0,none⟩),.agg #[.int .i64 sn,.int .i64 a,.int .i64 b,.int .i64 c,.int .i64 d],.agg #[.int .i64 3,.int .u8 yb,.int .i64 yl,.int .i64 3]] w0 fun e w'=> ∃ov v',e= .returned (.tuple #[ov,.int .i64 (if inwD n bs d then 0 else 7)])∧Made Win wb.heap.size w0.heap.size r n (bs++(if inwD n bs d then(copyL (d:Int).toNat bs (yl:Int).toNat)else [])) (if inwD n bs d then(copyL (d:Int).toNat bs (yl:Int).toNat)else []) ov v' w'∧Chg (Foot r v) w0 w'∧Moved w0 v v':=by
 have HS1:Hid (((w0.alloc (.cells #[.int .i64 sn,.int .i64 a,.int .i64 b,.int .i64 c,.int .i64 d] 88)).alloc (.cells #[.int .i64 3,.int .u8 yb,.int .i64 yl,.int .i64 3] 34)).heap[w0.heap.size]?=some (.cells #[.int .i64 sn,.int .i64 a,.int .i64 b,.int .i64 c,.int .i64 d] 88 (0,0))):=(Below.heap_alloc _ _ _ (by simp)).trans (heap_alloc_last w0 _)
 have HY1:Hid (((w0.alloc (.cells #[.int .i64 sn,.int .i64 a,.int .i64 b,.int .i64 c,.int .i64 d] 88)).alloc (.cells #[.int .i64 3,.int .u8 yb,.int .i64 yl,.int .i64 3] 34)).heap[w0.heap.size+1]?=some (.cells #[.int .i64 3,.int .u8 yb,.int .i64 yl,.int .i64 3] 34 (0,0))):=by
  have:=heap_alloc_last (w0.alloc (.cells #[.int .i64 sn,.int .i64 a,.int .i64 b,.int .i64 c,.int .i64 d] 88)) (.cells #[.int .i64 3,.int .u8 yb,.int .i64 yl,.int .i64 3] 34)
  rw [World.size_alloc]at this
  exact this
 have HC1:Hid (Chg (fun _=>False) w0 ((w0.alloc (.cells #[.int .i64 sn,.int .i64 a,.int .i64 b,.int .i64 c,.int .i64 d] 88)).alloc (.cells #[.int .i64 3,.int .u8 yb,.int .i64 yl,.int .i64 3] 34))):=chg_then (chg_one _ _) (chg_one _ _)
 have HLR:Hid (∀z,Foot r v z→z<w0.heap.size):=fun z f=>(S.lt h z f).2
 have HRW:Hid (Win w0 wb.heap.size r v n bs):=h
 have HRW1:Hid (Win ((w0.alloc (.cells #[.int .i64 sn,.int .i64 a,.int .i64 b,.int .i64 c,.int .i64 d] 88)).alloc (.cells #[.int .i64 3,.int .u8 yb,.int .i64 yl,.int .i64 3] 34)) wb.heap.size r v n bs):=S.new h HC1.out
 have HBB:Hid (wb.heap.size≤w0.heap.size):=hB
 have hk:=formed_kind hf
 simp at hk
 have HSZ:Hid ((0:Int)≤yl∧(yl:Int)≤273):=by constructor<;>omega
 have HI:Hid (I64 d∧I64 yl):=⟨hs.d,by have:=HSZ.out;unfold I64;omega⟩
 have HLQ:Hid (∀w_,Calls Tryz.prog 127 #[.agg #[.int .i64 3,.int .u8 yb,.int .i64 yl,.int .i64 3]] w_ fun e w'=>e= .returned (.int .i64 yl)∧Chg (fun _=>False) w_ w'):=fun w_=>by
  have h9:=tlen_q 3 yb yl 3 hf w_
  rw [show sizeA ⟨3,yb,yl,3⟩=yl from by unfold sizeA;rw [if_neg (by simp [hf])];rfl]at h9
  exact h9
 obtain⟨s0,s1,s2,s3,s4⟩:=cells5 HS1.out
 obtain⟨y0,y1,y2,y3⟩:=cells4y HY1.out
 clear hs hy hf hB h hk
 go_enter Tryz.func80,Tryz.ntmps80
 go_wp2_with fail
 generalize (w0.alloc (.cells #[.int .i64 sn,.int .i64 a,.int .i64 b,.int .i64 c,.int .i64 d] 88)).alloc (.cells #[.int .i64 3,.int .u8 yb,.int .i64 yl,.int .i64 3] 34)=W1 at*
 clear s0 s1 s2 s3 s4 y0 y1 y2 y3
 by_cases hi:inwD n bs d
 ·have HIN:Hid (inwD n bs d):=hi
  clear hi
  refine wp_region_setM (mk:=fun u=> #[_,_,_,_,_,_,u 6,_,_,_,_,_,_,_,_,_,_,_,_,_,_,_,u 22,u 23,u 24,u 25,u 26,u 27,u 28,u 29,u 30,u 31,u 32,_,_,_,_,_,_,_,_,_,_,_,_,_,_,_,_,_,_,_]) (G:=lookG [(22,.pointer (some ⟨r,0,none⟩)),(23,.pointer (some ⟨w0.heap.size+1,3,none⟩)),(24,.int .i64 3),(25,.pointer (some ⟨w0.heap.size,1,none⟩)),(26,.pointer (some ⟨w0.heap.size,4,none⟩)),(27,.int .i64 d),(28,.agg #[.int .i64 3,.int .u8 yb,.int .i64 yl,.int .i64 3]),(29,.int .i64 yl)]) (J:=fun L_ u ww=>Chg (Foot r v) W1 ww∧((L_ 8=false∧L_ 9=false∧L_ 10=false∧L_ 11=false∧Chg (fun _=>False) W1 ww)∨(L_ 7=true∧L_ 8=true∧ ∃ov v',u 30= .tuple #[ov,.int .i64 0]∧(L_ 9=true→u 31=ov)∧(L_ 10=true→u 32= .int .i64 0)∧(L_ 11=true→u 6=ov)∧(Made Win wb.heap.size w0.heap.size r n (bs++(copyL (d:Int).toNat bs (yl:Int).toNat)) (copyL (d:Int).toNat bs (yl:Int).toNat) ov v' ww∧Moved w0 v v')))) [7,8,9,10,11] ([]) (fun t=>if t=6 then .slice none 0 0 else if t=7 then .int .i64 0 else undef) rfl (by kernel_rfl) 12 _ rfl rfl (by kernel_rfl) (by kernel_rfl) ?_ ?_ ?_ ?_ ?_
  ·repeat (refine⟨fun _ _=>rfl,?_⟩)
   exact trivial
  ·intro L_ L2 u u2 ww h hj
   have l7_:L_ 7=L2 7:=(h 7 (by decide)).1
   have l8_:L_ 8=L2 8:=(h 8 (by decide)).1
   have e8_:u 30=u2 30:=(h 8 (by decide)).2
   have l9_:L_ 9=L2 9:=(h 9 (by decide)).1
   have e9_:u 31=u2 31:=(h 9 (by decide)).2
   have l10_:L_ 10=L2 10:=(h 10 (by decide)).1
   have e10_:u 32=u2 32:=(h 10 (by decide)).2
   have l11_:L_ 11=L2 11:=(h 11 (by decide)).1
   have e11_:u 6=u2 6:=(h 11 (by decide)).2
   show _∧_
   rw [←l7_,←l8_,←e8_,←l9_,←e9_,←l10_,←e10_,←l11_,←e11_]
   exact hj
  ·exact⟨(Chg.refl _ W1).drew,.inl ⟨rfl,rfl,rfl,rfl,(Chg.refl _ W1).drew⟩⟩
  ·refine⟨?_,?_,?_,?_,?_,?_,?_,?_,?_,?_,?_,?_,trivial⟩
   ·show StepRS _ _ _ _ _ _ _ _
    unfold StepRS
    intro L_ u w_ hj hd K hK
    clear hd
    have hc:=hj.1
    clear hj hc
    go_simp
    exact hK.out _ rfl
   ·show StepRS _ _ _ _ _ _ _ _
    unfold StepRS
    intro L_ u w_ hj hd K hK
    clear hd
    have hc:=hj.1
    clear hj hc
    go_simp
    exact hK.out _ rfl
   ·show StepRS _ _ _ _ _ _ _ _
    unfold StepRS
    intro L_ u w_ hj hd K hK
    have h23:u 23= .pointer (some ⟨w0.heap.size+1,3,none⟩):=hd.get 1 (by kernel_rfl)
    clear hd
    simp only [h23]at hK
    have hc:=hj.1
    obtain⟨x0,x1,x2,x3⟩:=cells4y (blk_keep HY1.out hc (fun f=>by have:=HLR.out _ f;omega))
    clear hj hc
    go_simp
    exact hK.out _ rfl
   ·show StepRS _ _ _ _ _ _ _ _
    unfold StepRS
    intro L_ u w_ hj hd K hK
    clear hd
    have hc:=hj.1
    clear hj hc
    go_simp
    exact hK.out _ rfl
   ·show StepRS _ _ _ _ _ _ _ _
    unfold StepRS
    intro L_ u w_ hj hd K hK
    have h25:u 25= .pointer (some ⟨w0.heap.size,1,none⟩):=hd.get 3 (by kernel_rfl)
    have h24:u 24= .int .i64 3:=hd.get 2 (by kernel_rfl)
    clear hd
    simp only [h25,h24]at hK
    have hc:=hj.1
    clear hj hc
    go_simp
    exact hK.out _ rfl
   ·show StepRS _ _ _ _ _ _ _ _
    unfold StepRS
    intro L_ u w_ hj hd K hK
    have h26:u 26= .pointer (some ⟨w0.heap.size,4,none⟩):=hd.get 4 (by kernel_rfl)
    clear hd
    simp only [h26]at hK
    have hc:=hj.1
    obtain⟨x0,x1,x2,x3,x4⟩:=cells5 (blk_keep HS1.out hc (fun f=>by have:=HLR.out _ f;omega))
    clear hj hc
    go_simp
    exact hK.out _ rfl
   ·show StepRS _ _ _ _ _ _ _ _
    unfold StepRS
    intro L_ u w_ hj hd K hK
    clear hd
    have hc:=hj.1
    obtain⟨x0,x1,x2,x3⟩:=cells4y (blk_keep HY1.out hc (fun f=>by have:=HLR.out _ f;omega))
    clear hj hc
    go_simp
    exact hK.out _ rfl
   ·show StepWS _ _ _ _ _ _ _ _ _
    unfold StepWS
    intro L_ u w_ hj hli hwt hd K hK
    have h28:u 28= .agg #[.int .i64 3,.int .u8 yb,.int .i64 yl,.int .i64 3]:=hd.get 6 (by kernel_rfl)
    clear hd
    simp only [h28]at hK
    obtain⟨hc,hm⟩:=hj
    rcases hm with⟨n30,n31,n32,n6,hF⟩|⟨l29,l30,_⟩
    ·go_simp
     refine Calls.mono (HLQ.out w_) ?_
     rintro z w2 ⟨rfl,c2⟩
     exact hK.out _ w2 ⟨hc.trans c2 (fun _ f=>f.elim),.inl ⟨n30,n31,n32,n6,chg_then hF c2⟩⟩ rfl
    ·rw [l29]at hli;cases hli
   ·show StepWS _ _ _ _ _ _ _ _ _
    unfold StepWS
    intro L_ u w_ hj hli hwt hd K hK
    have h22:u 22= .pointer (some ⟨r,0,none⟩):=hd.get 0 (by kernel_rfl)
    have h27:u 27= .int .i64 d:=hd.get 5 (by kernel_rfl)
    have h29:u 29= .int .i64 yl:=hd.get 7 (by kernel_rfl)
    clear hd
    simp only [h22,h27,h29]at hK
    obtain⟨hc,hm⟩:=hj
    rcases hm with⟨n30,n31,n32,n6,hF⟩|⟨l29,l30,_⟩
    ·have m31: ¬L_ 9=true:=by rw [n31];decide
     have m32: ¬L_ 10=true:=by rw [n32];decide
     have m6: ¬L_ 11=true:=by rw [n6];decide
     have l29:L_ 7=true:=hwt ⟨7,.data⟩ (by simp) rfl
     go_simp
     refine Calls.mono (S.copy wb.heap.size r v n bs d yl w_ (S.new HRW1.out hF) (by have:=HBB.out;have:=HC1.out.size;have:=hF.size;omega) HI.out.1 HI.out.2 hl) ?_
     rintro z w2 (⟨hno,_⟩|⟨_,ov,v',rfl,hqw,hqo,hqa,c2,hqm⟩)
     ·exact absurd ⟨HIN.out,HSZ.out⟩ hno
     exact hK.out _ w2 ⟨hc.trans c2 (fun z f=> .inl f),.inr ⟨l29,rfl,ov,v',rfl,(fun e=>absurd e m31),(fun e=>absurd e m32),(fun e=>absurd e m6),⟨⟨hqw,by rw [copyL_len];exact owns_base hqo (Nat.le_trans HC1.out.size hF.size),hqa⟩,moved_from (Nat.le_trans HC1.out.size hF.size) hqm⟩⟩⟩ trivial
    ·rw [l30]at hli;cases hli
   ·show StepWS _ _ _ _ _ _ _ _ _
    unfold StepWS
    intro L_ u w_ hj hli hwt hd K hK
    clear hd
    obtain⟨hc,hm⟩:=hj
    have lopr:L_ 8=true:=hwt ⟨8,.data⟩ (by simp) rfl
    rcases hm with⟨n30,n31,n32,n6,hF⟩|⟨l29,l30,ov,v',e30,q31,q32,q6,hp⟩
    ·rw [n30]at lopr;cases lopr
    ·have eo:=e30
     have HPH:Hid _:=hp
     clear hp
     simp only [eo]at hK⊢
     go_simp
     exact hK.out _ _ ⟨hc,.inr ⟨l29,l30,ov,v',e30,(fun _=>rfl),q32,q6,HPH.out⟩⟩ trivial
   ·show StepWS _ _ _ _ _ _ _ _ _
    unfold StepWS
    intro L_ u w_ hj hli hwt hd K hK
    clear hd
    obtain⟨hc,hm⟩:=hj
    have lopr:L_ 8=true:=hwt ⟨8,.data⟩ (by simp) rfl
    rcases hm with⟨n30,n31,n32,n6,hF⟩|⟨l29,l30,ov,v',e30,q31,q32,q6,hp⟩
    ·rw [n30]at lopr;cases lopr
    ·have eo:=e30
     have HPH:Hid _:=hp
     clear hp
     simp only [eo]at hK⊢
     go_simp
     exact hK.out _ _ ⟨hc,.inr ⟨l29,l30,ov,v',e30,q31,(fun _=>rfl),q6,HPH.out⟩⟩ trivial
   ·show StepWS _ _ _ _ _ _ _ _ _
    unfold StepWS
    intro L_ u w_ hj hli hwt hd K hK
    clear hd
    obtain⟨hc,hm⟩:=hj
    have lopr:L_ 9=true:=hwt ⟨9,.data⟩ (by simp) rfl
    rcases hm with⟨n30,n31,n32,n6,hF⟩|⟨l29,l30,ov,v',e30,q31,q32,q6,hp⟩
    ·rw [n31]at lopr;cases lopr
    ·have eo:=q31 lopr
     have HPH:Hid _:=hp
     clear hp
     simp only [eo,e30]at hK⊢
     go_simp
     exact hK.out _ _ ⟨hc,.inr ⟨l29,l30,ov,v',e30,q31,q32,(fun _=>rfl),HPH.out⟩⟩ trivial
  ·intro u w7 hj hA K hK
   obtain⟨hc7,hm⟩:=hj
   rcases hm with⟨nn,_⟩|⟨_,_,ov,v',eM,q0,q1,q6,hp⟩
   ·cases nn
   have e6:u 6=ov:=q6 rfl
   have e1:u 32= .int .i64 0:=q1 rfl
   have HM:Hid _:=hp.1
   have HMV:Hid (Moved w0 v v'):=hp.2
   have HC2:Hid (Chg (Foot r v) w0 w7):=(HC1.out.mono (fun _ f=>f.elim)).trans hc7 (fun z f=> .inl f)
   clear hA hc7 eM q0 q1 q6 hp HS1 HY1 HC1 HRW1
   simp only [e6,e1]
   go_simp
   refine hK.out _ _ ?_
   clear hK e6 e1
   go_wp2
   go_ret2
   exact⟨_,rfl,v',HM.out,HC2.out,HMV.out⟩
 ·have HIN:Hid (¬inwD n bs d):=hi
  clear hi
  refine wp_region_setM (mk:=fun u=> #[_,_,_,_,_,_,u 6,_,_,_,_,_,_,_,_,_,_,_,_,_,_,_,u 22,u 23,u 24,u 25,u 26,u 27,u 28,u 29,u 30,u 31,u 32,_,_,_,_,_,_,_,_,_,_,_,_,_,_,_,_,_,_,_]) (G:=lookG [(22,.pointer (some ⟨r,0,none⟩)),(23,.pointer (some ⟨w0.heap.size+1,3,none⟩)),(24,.int .i64 3),(25,.pointer (some ⟨w0.heap.size,1,none⟩)),(26,.pointer (some ⟨w0.heap.size,4,none⟩)),(27,.int .i64 d),(28,.agg #[.int .i64 3,.int .u8 yb,.int .i64 yl,.int .i64 3]),(29,.int .i64 yl)]) (J:=fun L_ u ww=>Chg (Foot r v) W1 ww∧((L_ 8=false∧L_ 9=false∧L_ 10=false∧L_ 11=false∧Chg (fun _=>False) W1 ww)∨(L_ 7=true∧L_ 8=true∧ ∃ov,u 30= .tuple #[ov,.int .i64 7]∧(L_ 9=true→u 31=ov)∧(L_ 10=true→u 32= .int .i64 7)∧(L_ 11=true→u 6=ov)∧(ov= .slice none 0 0∧Chg (fun _=>False) W1 ww)))) [7,8,9,10,11] ([]) (fun t=>if t=6 then .slice none 0 0 else if t=7 then .int .i64 0 else undef) rfl (by kernel_rfl) 12 _ rfl rfl (by kernel_rfl) (by kernel_rfl) ?_ ?_ ?_ ?_ ?_
  ·repeat (refine⟨fun _ _=>rfl,?_⟩)
   exact trivial
  ·intro L_ L2 u u2 ww h hj
   have l7_:L_ 7=L2 7:=(h 7 (by decide)).1
   have l8_:L_ 8=L2 8:=(h 8 (by decide)).1
   have e8_:u 30=u2 30:=(h 8 (by decide)).2
   have l9_:L_ 9=L2 9:=(h 9 (by decide)).1
   have e9_:u 31=u2 31:=(h 9 (by decide)).2
   have l10_:L_ 10=L2 10:=(h 10 (by decide)).1
   have e10_:u 32=u2 32:=(h 10 (by decide)).2
   have l11_:L_ 11=L2 11:=(h 11 (by decide)).1
   have e11_:u 6=u2 6:=(h 11 (by decide)).2
   show _∧_
   rw [←l7_,←l8_,←e8_,←l9_,←e9_,←l10_,←e10_,←l11_,←e11_]
   exact hj
  ·exact⟨(Chg.refl _ W1).drew,.inl ⟨rfl,rfl,rfl,rfl,(Chg.refl _ W1).drew⟩⟩
  ·refine⟨?_,?_,?_,?_,?_,?_,?_,?_,?_,?_,?_,?_,trivial⟩
   ·show StepRS _ _ _ _ _ _ _ _
    unfold StepRS
    intro L_ u w_ hj hd K hK
    clear hd
    have hc:=hj.1
    clear hj hc
    go_simp
    exact hK.out _ rfl
   ·show StepRS _ _ _ _ _ _ _ _
    unfold StepRS
    intro L_ u w_ hj hd K hK
    clear hd
    have hc:=hj.1
    clear hj hc
    go_simp
    exact hK.out _ rfl
   ·show StepRS _ _ _ _ _ _ _ _
    unfold StepRS
    intro L_ u w_ hj hd K hK
    have h23:u 23= .pointer (some ⟨w0.heap.size+1,3,none⟩):=hd.get 1 (by kernel_rfl)
    clear hd
    simp only [h23]at hK
    have hc:=hj.1
    obtain⟨x0,x1,x2,x3⟩:=cells4y (blk_keep HY1.out hc (fun f=>by have:=HLR.out _ f;omega))
    clear hj hc
    go_simp
    exact hK.out _ rfl
   ·show StepRS _ _ _ _ _ _ _ _
    unfold StepRS
    intro L_ u w_ hj hd K hK
    clear hd
    have hc:=hj.1
    clear hj hc
    go_simp
    exact hK.out _ rfl
   ·show StepRS _ _ _ _ _ _ _ _
    unfold StepRS
    intro L_ u w_ hj hd K hK
    have h25:u 25= .pointer (some ⟨w0.heap.size,1,none⟩):=hd.get 3 (by kernel_rfl)
    have h24:u 24= .int .i64 3:=hd.get 2 (by kernel_rfl)
    clear hd
    simp only [h25,h24]at hK
    have hc:=hj.1
    clear hj hc
    go_simp
    exact hK.out _ rfl
   ·show StepRS _ _ _ _ _ _ _ _
    unfold StepRS
    intro L_ u w_ hj hd K hK
    have h26:u 26= .pointer (some ⟨w0.heap.size,4,none⟩):=hd.get 4 (by kernel_rfl)
    clear hd
    simp only [h26]at hK
    have hc:=hj.1
    obtain⟨x0,x1,x2,x3,x4⟩:=cells5 (blk_keep HS1.out hc (fun f=>by have:=HLR.out _ f;omega))
    clear hj hc
    go_simp
    exact hK.out _ rfl
   ·show StepRS _ _ _ _ _ _ _ _
    unfold StepRS
    intro L_ u w_ hj hd K hK
    clear hd
    have hc:=hj.1
    obtain⟨x0,x1,x2,x3⟩:=cells4y (blk_keep HY1.out hc (fun f=>by have:=HLR.out _ f;omega))
    clear hj hc
    go_simp
    exact hK.out _ rfl
   ·show StepWS _ _ _ _ _ _ _ _ _
    unfold StepWS
    intro L_ u w_ hj hli hwt hd K hK
    have h28:u 28= .agg #[.int .i64 3,.int .u8 yb,.int .i64 yl,.int .i64 3]:=hd.get 6 (by kernel_rfl)
    clear hd
    simp only [h28]at hK
    obtain⟨hc,hm⟩:=hj
    rcases hm with⟨n30,n31,n32,n6,hF⟩|⟨l29,l30,_⟩
    ·go_simp
     refine Calls.mono (HLQ.out w_) ?_
     rintro z w2 ⟨rfl,c2⟩
     exact hK.out _ w2 ⟨hc.trans c2 (fun _ f=>f.elim),.inl ⟨n30,n31,n32,n6,chg_then hF c2⟩⟩ rfl
    ·rw [l29]at hli;cases hli
   ·show StepWS _ _ _ _ _ _ _ _ _
    unfold StepWS
    intro L_ u w_ hj hli hwt hd K hK
    have h22:u 22= .pointer (some ⟨r,0,none⟩):=hd.get 0 (by kernel_rfl)
    have h27:u 27= .int .i64 d:=hd.get 5 (by kernel_rfl)
    have h29:u 29= .int .i64 yl:=hd.get 7 (by kernel_rfl)
    clear hd
    simp only [h22,h27,h29]at hK
    obtain⟨hc,hm⟩:=hj
    rcases hm with⟨n30,n31,n32,n6,hF⟩|⟨l29,l30,_⟩
    ·have m31: ¬L_ 9=true:=by rw [n31];decide
     have m32: ¬L_ 10=true:=by rw [n32];decide
     have m6: ¬L_ 11=true:=by rw [n6];decide
     have l29:L_ 7=true:=hwt ⟨7,.data⟩ (by simp) rfl
     go_simp
     refine Calls.mono (S.copy wb.heap.size r v n bs d yl w_ (S.new HRW1.out hF) (by have:=HBB.out;have:=HC1.out.size;have:=hF.size;omega) HI.out.1 HI.out.2 hl) ?_
     rintro z w2 (⟨_,rfl,c3⟩|⟨hin,_⟩)
     rotate_left
     ·exact absurd hin.1 HIN.out
     have c2:Chg (Foot r v) w_ w2:=c3.mono (fun _ f=>f.elim)
     exact hK.out _ w2 ⟨hc.trans c2 (fun z f=> .inl f),.inr ⟨l29,rfl,_,rfl,(fun e=>absurd e m31),(fun e=>absurd e m32),(fun e=>absurd e m6),⟨rfl,chg_then hF c3⟩⟩⟩ trivial
    ·rw [l30]at hli;cases hli
   ·show StepWS _ _ _ _ _ _ _ _ _
    unfold StepWS
    intro L_ u w_ hj hli hwt hd K hK
    clear hd
    obtain⟨hc,hm⟩:=hj
    have lopr:L_ 8=true:=hwt ⟨8,.data⟩ (by simp) rfl
    rcases hm with⟨n30,n31,n32,n6,hF⟩|⟨l29,l30,ov,e30,q31,q32,q6,hp⟩
    ·rw [n30]at lopr;cases lopr
    ·have eo:=e30
     have HPH:Hid _:=hp
     clear hp
     simp only [eo]at hK⊢
     go_simp
     exact hK.out _ _ ⟨hc,.inr ⟨l29,l30,ov,e30,(fun _=>rfl),q32,q6,HPH.out⟩⟩ trivial
   ·show StepWS _ _ _ _ _ _ _ _ _
    unfold StepWS
    intro L_ u w_ hj hli hwt hd K hK
    clear hd
    obtain⟨hc,hm⟩:=hj
    have lopr:L_ 8=true:=hwt ⟨8,.data⟩ (by simp) rfl
    rcases hm with⟨n30,n31,n32,n6,hF⟩|⟨l29,l30,ov,e30,q31,q32,q6,hp⟩
    ·rw [n30]at lopr;cases lopr
    ·have eo:=e30
     have HPH:Hid _:=hp
     clear hp
     simp only [eo]at hK⊢
     go_simp
     exact hK.out _ _ ⟨hc,.inr ⟨l29,l30,ov,e30,q31,(fun _=>rfl),q6,HPH.out⟩⟩ trivial
   ·show StepWS _ _ _ _ _ _ _ _ _
    unfold StepWS
    intro L_ u w_ hj hli hwt hd K hK
    clear hd
    obtain⟨hc,hm⟩:=hj
    have lopr:L_ 9=true:=hwt ⟨9,.data⟩ (by simp) rfl
    rcases hm with⟨n30,n31,n32,n6,hF⟩|⟨l29,l30,ov,e30,q31,q32,q6,hp⟩
    ·rw [n31]at lopr;cases lopr
    ·have eo:=q31 lopr
     have HPH:Hid _:=hp
     clear hp
     simp only [eo,e30]at hK⊢
     go_simp
     exact hK.out _ _ ⟨hc,.inr ⟨l29,l30,ov,e30,q31,q32,(fun _=>rfl),HPH.out⟩⟩ trivial
  ·intro u w7 hj hA K hK
   obtain⟨hc7,hm⟩:=hj
   rcases hm with⟨nn,_⟩|⟨_,_,ov,eM,q0,q1,q6,hov,hp⟩
   ·cases nn
   have e6:u 6=ov:=q6 rfl
   have e1:u 32= .int .i64 7:=q1 rfl
   subst hov
   have HC2:Hid (Chg (fun _=>False) w0 w7):=chg_then HC1.out hp
   clear hA hc7 eM q0 q1 q6 hp HS1 HY1 HC1 HRW1
   simp only [e6,e1]
   go_simp
   refine hK.out _ _ ?_
   clear hK e6 e1
   go_wp2
   go_ret2
   refine⟨_,rfl,v,⟨?_,World.ownsRow_nil _ _ _ _,fun g e=>(nomatch e)⟩,HC2.out.mono (fun _ f=>f.elim),fun g e=> .inl e⟩
   exact S.new HRW.out HC2.out
set_option maxHeartbeats 4000000 in
set_option maxRecDepth 100000 in
theorem tlay_short (S:WinSpec Win)(wb:World)(r:Nat)(v:Value)(n:Nat)(bs:List Nat)(sn a b c d yb yl yd:Int)(hs:(⟨sn,a,b,c,d⟩:Stt).I)(hy:(⟨4,yb,yl,yd⟩:Sym).I)(hf:formed ⟨4,yb,yl,yd⟩=0)(w0:World)(hB:wb.heap.size≤w0.heap.size)(h:Win w0 wb.heap.size r v n bs)(hl:bs.length+273≤1152921504606846976):Calls Tryz.prog 80 #[.pointer (some ⟨r,0,none⟩),.agg #[.int .i64 sn,.int .i64 a,.int .i64 b,.int .i64 c,.int .i64 d],.agg #[.int .i64 4,.int .u8 yb,.int .i64 yl,.int .i64 yd]] w0 fun e w'=> ∃ov v',e= .returned (.tuple #[ov,.int .i64 (if inwD n bs a then 0 else 7)])∧Made Win wb.heap.size w0.heap.size r n (bs++(if inwD n bs a then(copyL (a:Int).toNat bs (1:Int).toNat)else [])) (if inwD n bs a then(copyL (a:Int).toNat bs (1:Int).toNat)else []) ov v' w'∧Chg (Foot r v) w0 w'∧Moved w0 v v':=by
 have HS1:Hid (((w0.alloc (.cells #[.int .i64 sn,.int .i64 a,.int .i64 b,.int .i64 c,.int .i64 d] 88)).alloc (.cells #[.int .i64 4,.int .u8 yb,.int .i64 yl,.int .i64 yd] 34)).heap[w0.heap.size]?=some (.cells #[.int .i64 sn,.int .i64 a,.int .i64 b,.int .i64 c,.int .i64 d] 88 (0,0))):=(Below.heap_alloc _ _ _ (by simp)).trans (heap_alloc_last w0 _)
 have HY1:Hid (((w0.alloc (.cells #[.int .i64 sn,.int .i64 a,.int .i64 b,.int .i64 c,.int .i64 d] 88)).alloc (.cells #[.int .i64 4,.int .u8 yb,.int .i64 yl,.int .i64 yd] 34)).heap[w0.heap.size+1]?=some (.cells #[.int .i64 4,.int .u8 yb,.int .i64 yl,.int .i64 yd] 34 (0,0))):=by
  have:=heap_alloc_last (w0.alloc (.cells #[.int .i64 sn,.int .i64 a,.int .i64 b,.int .i64 c,.int .i64 d] 88)) (.cells #[.int .i64 4,.int .u8 yb,.int .i64 yl,.int .i64 yd] 34)
  rw [World.size_alloc]at this
  exact this
 have HC1:Hid (Chg (fun _=>False) w0 ((w0.alloc (.cells #[.int .i64 sn,.int .i64 a,.int .i64 b,.int .i64 c,.int .i64 d] 88)).alloc (.cells #[.int .i64 4,.int .u8 yb,.int .i64 yl,.int .i64 yd] 34))):=chg_then (chg_one _ _) (chg_one _ _)
 have HLR:Hid (∀z,Foot r v z→z<w0.heap.size):=fun z f=>(S.lt h z f).2
 have HRW:Hid (Win w0 wb.heap.size r v n bs):=h
 have HRW1:Hid (Win ((w0.alloc (.cells #[.int .i64 sn,.int .i64 a,.int .i64 b,.int .i64 c,.int .i64 d] 88)).alloc (.cells #[.int .i64 4,.int .u8 yb,.int .i64 yl,.int .i64 yd] 34)) wb.heap.size r v n bs):=S.new h HC1.out
 have HBB:Hid (wb.heap.size≤w0.heap.size):=hB
 have hk:=formed_kind hf
 simp at hk
 have HSZ:Hid ((0:Int)≤1∧(1:Int)≤273):=by constructor<;>omega
 have HI:Hid (I64 a∧I64 1):=⟨hs.a,by have:=HSZ.out;unfold I64;omega⟩
 have HLQ:Hid (∀w_,Calls Tryz.prog 127 #[.agg #[.int .i64 4,.int .u8 yb,.int .i64 yl,.int .i64 yd]] w_ fun e w'=>e= .returned (.int .i64 1)∧Chg (fun _=>False) w_ w'):=fun w_=>by
  have h9:=tlen_q 4 yb yl yd hf w_
  rw [show sizeA ⟨4,yb,yl,yd⟩=1 from by unfold sizeA;rw [if_neg (by simp [hf])];rfl]at h9
  exact h9
 obtain⟨s0,s1,s2,s3,s4⟩:=cells5 HS1.out
 obtain⟨y0,y1,y2,y3⟩:=cells4y HY1.out
 clear hs hy hf hB h hk
 go_enter Tryz.func80,Tryz.ntmps80
 go_wp2_with fail
 generalize (w0.alloc (.cells #[.int .i64 sn,.int .i64 a,.int .i64 b,.int .i64 c,.int .i64 d] 88)).alloc (.cells #[.int .i64 4,.int .u8 yb,.int .i64 yl,.int .i64 yd] 34)=W1 at*
 clear s0 s1 s2 s3 s4 y0 y1 y2 y3
 by_cases hi:inwD n bs a
 ·have HIN:Hid (inwD n bs a):=hi
  clear hi
  refine wp_region_setM (mk:=fun u=> #[_,_,_,_,_,_,u 6,_,_,_,_,_,_,_,_,_,_,_,_,_,_,_,_,_,_,_,_,_,_,_,_,_,_,_,_,u 35,u 36,u 37,u 38,u 39,u 40,u 41,u 42,u 43,_,_,_,_,_,_,_,_]) (G:=lookG [(35,.pointer (some ⟨r,0,none⟩)),(36,.pointer (some ⟨w0.heap.size,1,none⟩)),(37,.pointer (some ⟨w0.heap.size,1,none⟩)),(38,.int .i64 a),(39,.agg #[.int .i64 4,.int .u8 yb,.int .i64 yl,.int .i64 yd]),(40,.int .i64 1)]) (J:=fun L_ u ww=>Chg (Foot r v) W1 ww∧((L_ 6=false∧L_ 7=false∧L_ 8=false∧L_ 9=false∧Chg (fun _=>False) W1 ww)∨(L_ 5=true∧L_ 6=true∧ ∃ov v',u 41= .tuple #[ov,.int .i64 0]∧(L_ 7=true→u 42=ov)∧(L_ 8=true→u 43= .int .i64 0)∧(L_ 9=true→u 6=ov)∧(Made Win wb.heap.size w0.heap.size r n (bs++(copyL (a:Int).toNat bs (1:Int).toNat)) (copyL (a:Int).toNat bs (1:Int).toNat) ov v' ww∧Moved w0 v v')))) [5,6,7,8,9] ([]) (fun t=>if t=6 then .slice none 0 0 else if t=7 then .int .i64 0 else undef) rfl (by kernel_rfl) 10 _ rfl rfl (by kernel_rfl) (by kernel_rfl) ?_ ?_ ?_ ?_ ?_
  ·repeat (refine⟨fun _ _=>rfl,?_⟩)
   exact trivial
  ·intro L_ L2 u u2 ww h hj
   have l5_:L_ 5=L2 5:=(h 5 (by decide)).1
   have l6_:L_ 6=L2 6:=(h 6 (by decide)).1
   have e6_:u 41=u2 41:=(h 6 (by decide)).2
   have l7_:L_ 7=L2 7:=(h 7 (by decide)).1
   have e7_:u 42=u2 42:=(h 7 (by decide)).2
   have l8_:L_ 8=L2 8:=(h 8 (by decide)).1
   have e8_:u 43=u2 43:=(h 8 (by decide)).2
   have l9_:L_ 9=L2 9:=(h 9 (by decide)).1
   have e9_:u 6=u2 6:=(h 9 (by decide)).2
   show _∧_
   rw [←l5_,←l6_,←e6_,←l7_,←e7_,←l8_,←e8_,←l9_,←e9_]
   exact hj
  ·exact⟨(Chg.refl _ W1).drew,.inl ⟨rfl,rfl,rfl,rfl,(Chg.refl _ W1).drew⟩⟩
  ·refine⟨?_,?_,?_,?_,?_,?_,?_,?_,?_,?_,trivial⟩
   ·show StepRS _ _ _ _ _ _ _ _
    unfold StepRS
    intro L_ u w_ hj hd K hK
    clear hd
    have hc:=hj.1
    clear hj hc
    go_simp
    exact hK.out _ rfl
   ·show StepRS _ _ _ _ _ _ _ _
    unfold StepRS
    intro L_ u w_ hj hd K hK
    clear hd
    have hc:=hj.1
    clear hj hc
    go_simp
    exact hK.out _ rfl
   ·show StepRS _ _ _ _ _ _ _ _
    unfold StepRS
    intro L_ u w_ hj hd K hK
    have h36:u 36= .pointer (some ⟨w0.heap.size,1,none⟩):=hd.get 1 (by kernel_rfl)
    clear hd
    simp only [h36]at hK
    have hc:=hj.1
    clear hj hc
    go_simp
    exact hK.out _ rfl
   ·show StepRS _ _ _ _ _ _ _ _
    unfold StepRS
    intro L_ u w_ hj hd K hK
    have h37:u 37= .pointer (some ⟨w0.heap.size,1,none⟩):=hd.get 2 (by kernel_rfl)
    clear hd
    simp only [h37]at hK
    have hc:=hj.1
    obtain⟨x0,x1,x2,x3,x4⟩:=cells5 (blk_keep HS1.out hc (fun f=>by have:=HLR.out _ f;omega))
    clear hj hc
    go_simp
    exact hK.out _ rfl
   ·show StepRS _ _ _ _ _ _ _ _
    unfold StepRS
    intro L_ u w_ hj hd K hK
    clear hd
    have hc:=hj.1
    obtain⟨x0,x1,x2,x3⟩:=cells4y (blk_keep HY1.out hc (fun f=>by have:=HLR.out _ f;omega))
    clear hj hc
    go_simp
    exact hK.out _ rfl
   ·show StepWS _ _ _ _ _ _ _ _ _
    unfold StepWS
    intro L_ u w_ hj hli hwt hd K hK
    have h39:u 39= .agg #[.int .i64 4,.int .u8 yb,.int .i64 yl,.int .i64 yd]:=hd.get 4 (by kernel_rfl)
    clear hd
    simp only [h39]at hK
    obtain⟨hc,hm⟩:=hj
    rcases hm with⟨n41,n42,n43,n6,hF⟩|⟨l40,l41,_⟩
    ·go_simp
     refine Calls.mono (HLQ.out w_) ?_
     rintro z w2 ⟨rfl,c2⟩
     exact hK.out _ w2 ⟨hc.trans c2 (fun _ f=>f.elim),.inl ⟨n41,n42,n43,n6,chg_then hF c2⟩⟩ rfl
    ·rw [l40]at hli;cases hli
   ·show StepWS _ _ _ _ _ _ _ _ _
    unfold StepWS
    intro L_ u w_ hj hli hwt hd K hK
    have h35:u 35= .pointer (some ⟨r,0,none⟩):=hd.get 0 (by kernel_rfl)
    have h38:u 38= .int .i64 a:=hd.get 3 (by kernel_rfl)
    have h40:u 40= .int .i64 1:=hd.get 5 (by kernel_rfl)
    clear hd
    simp only [h35,h38,h40]at hK
    obtain⟨hc,hm⟩:=hj
    rcases hm with⟨n41,n42,n43,n6,hF⟩|⟨l40,l41,_⟩
    ·have m42: ¬L_ 7=true:=by rw [n42];decide
     have m43: ¬L_ 8=true:=by rw [n43];decide
     have m6: ¬L_ 9=true:=by rw [n6];decide
     have l40:L_ 5=true:=hwt ⟨5,.data⟩ (by simp) rfl
     go_simp
     refine Calls.mono (S.copy wb.heap.size r v n bs a 1 w_ (S.new HRW1.out hF) (by have:=HBB.out;have:=HC1.out.size;have:=hF.size;omega) HI.out.1 HI.out.2 hl) ?_
     rintro z w2 (⟨hno,_⟩|⟨_,ov,v',rfl,hqw,hqo,hqa,c2,hqm⟩)
     ·exact absurd ⟨HIN.out,HSZ.out⟩ hno
     exact hK.out _ w2 ⟨hc.trans c2 (fun z f=> .inl f),.inr ⟨l40,rfl,ov,v',rfl,(fun e=>absurd e m42),(fun e=>absurd e m43),(fun e=>absurd e m6),⟨⟨hqw,by rw [copyL_len];exact owns_base hqo (Nat.le_trans HC1.out.size hF.size),hqa⟩,moved_from (Nat.le_trans HC1.out.size hF.size) hqm⟩⟩⟩ trivial
    ·rw [l41]at hli;cases hli
   ·show StepWS _ _ _ _ _ _ _ _ _
    unfold StepWS
    intro L_ u w_ hj hli hwt hd K hK
    clear hd
    obtain⟨hc,hm⟩:=hj
    have lopr:L_ 6=true:=hwt ⟨6,.data⟩ (by simp) rfl
    rcases hm with⟨n41,n42,n43,n6,hF⟩|⟨l40,l41,ov,v',e41,q42,q43,q6,hp⟩
    ·rw [n41]at lopr;cases lopr
    ·have eo:=e41
     have HPH:Hid _:=hp
     clear hp
     simp only [eo]at hK⊢
     go_simp
     exact hK.out _ _ ⟨hc,.inr ⟨l40,l41,ov,v',e41,(fun _=>rfl),q43,q6,HPH.out⟩⟩ trivial
   ·show StepWS _ _ _ _ _ _ _ _ _
    unfold StepWS
    intro L_ u w_ hj hli hwt hd K hK
    clear hd
    obtain⟨hc,hm⟩:=hj
    have lopr:L_ 6=true:=hwt ⟨6,.data⟩ (by simp) rfl
    rcases hm with⟨n41,n42,n43,n6,hF⟩|⟨l40,l41,ov,v',e41,q42,q43,q6,hp⟩
    ·rw [n41]at lopr;cases lopr
    ·have eo:=e41
     have HPH:Hid _:=hp
     clear hp
     simp only [eo]at hK⊢
     go_simp
     exact hK.out _ _ ⟨hc,.inr ⟨l40,l41,ov,v',e41,q42,(fun _=>rfl),q6,HPH.out⟩⟩ trivial
   ·show StepWS _ _ _ _ _ _ _ _ _
    unfold StepWS
    intro L_ u w_ hj hli hwt hd K hK
    clear hd
    obtain⟨hc,hm⟩:=hj
    have lopr:L_ 7=true:=hwt ⟨7,.data⟩ (by simp) rfl
    rcases hm with⟨n41,n42,n43,n6,hF⟩|⟨l40,l41,ov,v',e41,q42,q43,q6,hp⟩
    ·rw [n42]at lopr;cases lopr
    ·have eo:=q42 lopr
     have HPH:Hid _:=hp
     clear hp
     simp only [eo,e41]at hK⊢
     go_simp
     exact hK.out _ _ ⟨hc,.inr ⟨l40,l41,ov,v',e41,q42,q43,(fun _=>rfl),HPH.out⟩⟩ trivial
  ·intro u w7 hj hA K hK
   obtain⟨hc7,hm⟩:=hj
   rcases hm with⟨nn,_⟩|⟨_,_,ov,v',eM,q0,q1,q6,hp⟩
   ·cases nn
   have e6:u 6=ov:=q6 rfl
   have e1:u 43= .int .i64 0:=q1 rfl
   have HM:Hid _:=hp.1
   have HMV:Hid (Moved w0 v v'):=hp.2
   have HC2:Hid (Chg (Foot r v) w0 w7):=(HC1.out.mono (fun _ f=>f.elim)).trans hc7 (fun z f=> .inl f)
   clear hA hc7 eM q0 q1 q6 hp HS1 HY1 HC1 HRW1
   simp only [e6,e1]
   go_simp
   refine hK.out _ _ ?_
   clear hK e6 e1
   go_wp2
   go_ret2
   exact⟨_,rfl,v',HM.out,HC2.out,HMV.out⟩
 ·have HIN:Hid (¬inwD n bs a):=hi
  clear hi
  refine wp_region_setM (mk:=fun u=> #[_,_,_,_,_,_,u 6,_,_,_,_,_,_,_,_,_,_,_,_,_,_,_,_,_,_,_,_,_,_,_,_,_,_,_,_,u 35,u 36,u 37,u 38,u 39,u 40,u 41,u 42,u 43,_,_,_,_,_,_,_,_]) (G:=lookG [(35,.pointer (some ⟨r,0,none⟩)),(36,.pointer (some ⟨w0.heap.size,1,none⟩)),(37,.pointer (some ⟨w0.heap.size,1,none⟩)),(38,.int .i64 a),(39,.agg #[.int .i64 4,.int .u8 yb,.int .i64 yl,.int .i64 yd]),(40,.int .i64 1)]) (J:=fun L_ u ww=>Chg (Foot r v) W1 ww∧((L_ 6=false∧L_ 7=false∧L_ 8=false∧L_ 9=false∧Chg (fun _=>False) W1 ww)∨(L_ 5=true∧L_ 6=true∧ ∃ov,u 41= .tuple #[ov,.int .i64 7]∧(L_ 7=true→u 42=ov)∧(L_ 8=true→u 43= .int .i64 7)∧(L_ 9=true→u 6=ov)∧(ov= .slice none 0 0∧Chg (fun _=>False) W1 ww)))) [5,6,7,8,9] ([]) (fun t=>if t=6 then .slice none 0 0 else if t=7 then .int .i64 0 else undef) rfl (by kernel_rfl) 10 _ rfl rfl (by kernel_rfl) (by kernel_rfl) ?_ ?_ ?_ ?_ ?_
  ·repeat (refine⟨fun _ _=>rfl,?_⟩)
   exact trivial
  ·intro L_ L2 u u2 ww h hj
   have l5_:L_ 5=L2 5:=(h 5 (by decide)).1
   have l6_:L_ 6=L2 6:=(h 6 (by decide)).1
   have e6_:u 41=u2 41:=(h 6 (by decide)).2
   have l7_:L_ 7=L2 7:=(h 7 (by decide)).1
   have e7_:u 42=u2 42:=(h 7 (by decide)).2
   have l8_:L_ 8=L2 8:=(h 8 (by decide)).1
   have e8_:u 43=u2 43:=(h 8 (by decide)).2
   have l9_:L_ 9=L2 9:=(h 9 (by decide)).1
   have e9_:u 6=u2 6:=(h 9 (by decide)).2
   show _∧_
   rw [←l5_,←l6_,←e6_,←l7_,←e7_,←l8_,←e8_,←l9_,←e9_]
   exact hj
  ·exact⟨(Chg.refl _ W1).drew,.inl ⟨rfl,rfl,rfl,rfl,(Chg.refl _ W1).drew⟩⟩
  ·refine⟨?_,?_,?_,?_,?_,?_,?_,?_,?_,?_,trivial⟩
   ·show StepRS _ _ _ _ _ _ _ _
    unfold StepRS
    intro L_ u w_ hj hd K hK
    clear hd
    have hc:=hj.1
    clear hj hc
    go_simp
    exact hK.out _ rfl
   ·show StepRS _ _ _ _ _ _ _ _
    unfold StepRS
    intro L_ u w_ hj hd K hK
    clear hd
    have hc:=hj.1
    clear hj hc
    go_simp
    exact hK.out _ rfl
   ·show StepRS _ _ _ _ _ _ _ _
    unfold StepRS
    intro L_ u w_ hj hd K hK
    have h36:u 36= .pointer (some ⟨w0.heap.size,1,none⟩):=hd.get 1 (by kernel_rfl)
    clear hd
    simp only [h36]at hK
    have hc:=hj.1
    clear hj hc
    go_simp
    exact hK.out _ rfl
   ·show StepRS _ _ _ _ _ _ _ _
    unfold StepRS
    intro L_ u w_ hj hd K hK
    have h37:u 37= .pointer (some ⟨w0.heap.size,1,none⟩):=hd.get 2 (by kernel_rfl)
    clear hd
    simp only [h37]at hK
    have hc:=hj.1
    obtain⟨x0,x1,x2,x3,x4⟩:=cells5 (blk_keep HS1.out hc (fun f=>by have:=HLR.out _ f;omega))
    clear hj hc
    go_simp
    exact hK.out _ rfl
   ·show StepRS _ _ _ _ _ _ _ _
    unfold StepRS
    intro L_ u w_ hj hd K hK
    clear hd
    have hc:=hj.1
    obtain⟨x0,x1,x2,x3⟩:=cells4y (blk_keep HY1.out hc (fun f=>by have:=HLR.out _ f;omega))
    clear hj hc
    go_simp
    exact hK.out _ rfl
   ·show StepWS _ _ _ _ _ _ _ _ _
    unfold StepWS
    intro L_ u w_ hj hli hwt hd K hK
    have h39:u 39= .agg #[.int .i64 4,.int .u8 yb,.int .i64 yl,.int .i64 yd]:=hd.get 4 (by kernel_rfl)
    clear hd
    simp only [h39]at hK
    obtain⟨hc,hm⟩:=hj
    rcases hm with⟨n41,n42,n43,n6,hF⟩|⟨l40,l41,_⟩
    ·go_simp
     refine Calls.mono (HLQ.out w_) ?_
     rintro z w2 ⟨rfl,c2⟩
     exact hK.out _ w2 ⟨hc.trans c2 (fun _ f=>f.elim),.inl ⟨n41,n42,n43,n6,chg_then hF c2⟩⟩ rfl
    ·rw [l40]at hli;cases hli
   ·show StepWS _ _ _ _ _ _ _ _ _
    unfold StepWS
    intro L_ u w_ hj hli hwt hd K hK
    have h35:u 35= .pointer (some ⟨r,0,none⟩):=hd.get 0 (by kernel_rfl)
    have h38:u 38= .int .i64 a:=hd.get 3 (by kernel_rfl)
    have h40:u 40= .int .i64 1:=hd.get 5 (by kernel_rfl)
    clear hd
    simp only [h35,h38,h40]at hK
    obtain⟨hc,hm⟩:=hj
    rcases hm with⟨n41,n42,n43,n6,hF⟩|⟨l40,l41,_⟩
    ·have m42: ¬L_ 7=true:=by rw [n42];decide
     have m43: ¬L_ 8=true:=by rw [n43];decide
     have m6: ¬L_ 9=true:=by rw [n6];decide
     have l40:L_ 5=true:=hwt ⟨5,.data⟩ (by simp) rfl
     go_simp
     refine Calls.mono (S.copy wb.heap.size r v n bs a 1 w_ (S.new HRW1.out hF) (by have:=HBB.out;have:=HC1.out.size;have:=hF.size;omega) HI.out.1 HI.out.2 hl) ?_
     rintro z w2 (⟨_,rfl,c3⟩|⟨hin,_⟩)
     rotate_left
     ·exact absurd hin.1 HIN.out
     have c2:Chg (Foot r v) w_ w2:=c3.mono (fun _ f=>f.elim)
     exact hK.out _ w2 ⟨hc.trans c2 (fun z f=> .inl f),.inr ⟨l40,rfl,_,rfl,(fun e=>absurd e m42),(fun e=>absurd e m43),(fun e=>absurd e m6),⟨rfl,chg_then hF c3⟩⟩⟩ trivial
    ·rw [l41]at hli;cases hli
   ·show StepWS _ _ _ _ _ _ _ _ _
    unfold StepWS
    intro L_ u w_ hj hli hwt hd K hK
    clear hd
    obtain⟨hc,hm⟩:=hj
    have lopr:L_ 6=true:=hwt ⟨6,.data⟩ (by simp) rfl
    rcases hm with⟨n41,n42,n43,n6,hF⟩|⟨l40,l41,ov,e41,q42,q43,q6,hp⟩
    ·rw [n41]at lopr;cases lopr
    ·have eo:=e41
     have HPH:Hid _:=hp
     clear hp
     simp only [eo]at hK⊢
     go_simp
     exact hK.out _ _ ⟨hc,.inr ⟨l40,l41,ov,e41,(fun _=>rfl),q43,q6,HPH.out⟩⟩ trivial
   ·show StepWS _ _ _ _ _ _ _ _ _
    unfold StepWS
    intro L_ u w_ hj hli hwt hd K hK
    clear hd
    obtain⟨hc,hm⟩:=hj
    have lopr:L_ 6=true:=hwt ⟨6,.data⟩ (by simp) rfl
    rcases hm with⟨n41,n42,n43,n6,hF⟩|⟨l40,l41,ov,e41,q42,q43,q6,hp⟩
    ·rw [n41]at lopr;cases lopr
    ·have eo:=e41
     have HPH:Hid _:=hp
     clear hp
     simp only [eo]at hK⊢
     go_simp
     exact hK.out _ _ ⟨hc,.inr ⟨l40,l41,ov,e41,q42,(fun _=>rfl),q6,HPH.out⟩⟩ trivial
   ·show StepWS _ _ _ _ _ _ _ _ _
    unfold StepWS
    intro L_ u w_ hj hli hwt hd K hK
    clear hd
    obtain⟨hc,hm⟩:=hj
    have lopr:L_ 7=true:=hwt ⟨7,.data⟩ (by simp) rfl
    rcases hm with⟨n41,n42,n43,n6,hF⟩|⟨l40,l41,ov,e41,q42,q43,q6,hp⟩
    ·rw [n42]at lopr;cases lopr
    ·have eo:=q42 lopr
     have HPH:Hid _:=hp
     clear hp
     simp only [eo,e41]at hK⊢
     go_simp
     exact hK.out _ _ ⟨hc,.inr ⟨l40,l41,ov,e41,q42,q43,(fun _=>rfl),HPH.out⟩⟩ trivial
  ·intro u w7 hj hA K hK
   obtain⟨hc7,hm⟩:=hj
   rcases hm with⟨nn,_⟩|⟨_,_,ov,eM,q0,q1,q6,hov,hp⟩
   ·cases nn
   have e6:u 6=ov:=q6 rfl
   have e1:u 43= .int .i64 7:=q1 rfl
   subst hov
   have HC2:Hid (Chg (fun _=>False) w0 w7):=chg_then HC1.out hp
   clear hA hc7 eM q0 q1 q6 hp HS1 HY1 HC1 HRW1
   simp only [e6,e1]
   go_simp
   refine hK.out _ _ ?_
   clear hK e6 e1
   go_wp2
   go_ret2
   refine⟨_,rfl,v,⟨?_,World.ownsRow_nil _ _ _ _,fun g e=>(nomatch e)⟩,HC2.out.mono (fun _ f=>f.elim),fun g e=> .inl e⟩
   exact S.new HRW.out HC2.out
def layA (n:Nat)(bs:List Nat)(s:Stt)(y:Sym):List Nat×Int:=if y.k=1 then([y.y.toNat],0)else if inwD n bs (distS s y)then(copyL (distS s y).toNat bs (sizeA y).toNat,0)else([],7)
set_option maxHeartbeats 4000000 in
set_option maxRecDepth 100000 in
theorem tlay_lit (S:WinSpec Win)(wb:World)(r:Nat)(v:Value)(n:Nat)(bs:List Nat)(sn a b c d yb yl yd:Int)(hy:(⟨1,yb,yl,yd⟩:Sym).I)(w0:World)(hB:wb.heap.size≤w0.heap.size)(h:Win w0 wb.heap.size r v n bs)(hl:bs.length+273≤1152921504606846976):Calls Tryz.prog 80 #[.pointer (some ⟨r,0,none⟩),.agg #[.int .i64 sn,.int .i64 a,.int .i64 b,.int .i64 c,.int .i64 d],.agg #[.int .i64 1,.int .u8 yb,.int .i64 yl,.int .i64 yd]] w0 fun e w'=> ∃ov v',e= .returned (.tuple #[ov,.int .i64 0])∧Made Win wb.heap.size w0.heap.size r n (bs++[yb.toNat]) [yb.toNat] ov v' w'∧Chg (Foot r v) w0 w'∧Moved w0 v v':=by
 have HY1:Hid (((w0.alloc (.cells #[.int .i64 sn,.int .i64 a,.int .i64 b,.int .i64 c,.int .i64 d] 88)).alloc (.cells #[.int .i64 1,.int .u8 yb,.int .i64 yl,.int .i64 yd] 34)).heap[w0.heap.size+1]?=some (.cells #[.int .i64 1,.int .u8 yb,.int .i64 yl,.int .i64 yd] 34 (0,0))):=by
  have:=heap_alloc_last (w0.alloc (.cells #[.int .i64 sn,.int .i64 a,.int .i64 b,.int .i64 c,.int .i64 d] 88)) (.cells #[.int .i64 1,.int .u8 yb,.int .i64 yl,.int .i64 yd] 34)
  rw [World.size_alloc]at this
  exact this
 have HC1:Hid (Chg (fun _=>False) w0 ((w0.alloc (.cells #[.int .i64 sn,.int .i64 a,.int .i64 b,.int .i64 c,.int .i64 d] 88)).alloc (.cells #[.int .i64 1,.int .u8 yb,.int .i64 yl,.int .i64 yd] 34))):=chg_then (chg_one _ _) (chg_one _ _)
 have HWS:Hid (((w0.alloc (.cells #[.int .i64 sn,.int .i64 a,.int .i64 b,.int .i64 c,.int .i64 d] 88)).alloc (.cells #[.int .i64 1,.int .u8 yb,.int .i64 yl,.int .i64 yd] 34)).heap.size=w0.heap.size+1+1):=by show _=_;rw [World.size_alloc,World.size_alloc]
 have HRW:Hid (Win w0 wb.heap.size r v n bs):=h
 have HRW1:Hid (Win ((w0.alloc (.cells #[.int .i64 sn,.int .i64 a,.int .i64 b,.int .i64 c,.int .i64 d] 88)).alloc (.cells #[.int .i64 1,.int .u8 yb,.int .i64 yl,.int .i64 yd] 34)) wb.heap.size r v n bs):=S.new h HC1.out
 have HBB:Hid (wb.heap.size≤w0.heap.size):=hB
 have HYB:Hid (nums [yb.toNat]=[yb]):=by
  show _=_
  have:=hy.y
  simp only at this
  simp only [nums,List.map_cons,List.map_nil]
  congr 1
  omega
 have HDY:Hid (Rc.Dig [yb.toNat]):=fun x hx=>by
  have:=hy.y
  simp only [List.mem_singleton]at hx
  simp only at this
  omega
 obtain⟨y0,y1,y2,y3⟩:=cells4y HY1.out
 clear hB h hy
 go_enter Tryz.func80,Tryz.ntmps80
 go_wp2_with fail
 generalize (w0.alloc (.cells #[.int .i64 sn,.int .i64 a,.int .i64 b,.int .i64 c,.int .i64 d] 88)).alloc (.cells #[.int .i64 1,.int .u8 yb,.int .i64 yl,.int .i64 yd] 34)=W1 at*
 have cA:=chg_one W1 (.cells #[.int .u8 yb] 5)
 have hown:(W1.alloc (.cells #[.int .u8 yb] 5)).ownsRow w0.heap.size 5 1 (.slice (some ⟨w0.heap.size+1+1,0,none⟩) 1 1) 1 (ins .u8 (nums [yb.toNat])):=by
  have:=World.ownsRow_lit (base:=w0.heap.size) (e:=5) (size:=1) W1 #[.int .u8 yb] 1 HC1.out.size (by decide) rfl
  rw [HWS.out]at this
  rw [HYB.out]
  exact this
 have hlr: ∀z,Foot r v z→z<w0.heap.size:=fun z f=>(S.lt HRW.out z f).2
 refine(S.put wb.heap.size r v n bs (some ⟨w0.heap.size+1+1,0,none⟩) 1 1 [yb.toNat] _ (S.new HRW1.out cA) (by have:=HBB.out;have:=HC1.out.size;rw [World.size_alloc];omega) (row8_own hown) HDY.out (fun x e f=>by
  simp only [Option.some.injEq]at e
  subst e
  have:=hlr _ f
  simp only at this
  omega) (Nat.le_refl _) (by omega) (by omega)).mono ?_
 rintro z W2 ⟨rfl,v',hrw2,c2,hmv⟩
 have HYY:Hid (W2.heap[w0.heap.size+1]?=some (.cells #[.int .i64 1,.int .u8 yb,.int .i64 yl,.int .i64 yd] 34 (0,0))):=blk_keep (blk_keep HY1.out cA (fun f=>f)) c2 (fun f=>by have:=hlr _ f;omega)
 have HC2:Hid (Chg (Foot r v) w0 W2):=((chg_then HC1.out cA).mono (fun _ f=>f.elim)).trans c2 (fun z f=> .inl f)
 have cB:=chg_one W2 (.cells #[.int .u8 yb] 5)
 have HC3:Hid (Chg (Foot r v) w0 (W2.alloc (.cells #[.int .u8 yb] 5))):=HC2.out.trans cB (fun z f=>f.elim)
 have HM:Hid (Made Win wb.heap.size w0.heap.size r n (bs++[yb.toNat]) [yb.toNat] (.slice (some ⟨W2.heap.size,0,none⟩) 1 1) v' (W2.alloc (.cells #[.int .u8 yb] 5))):=⟨S.new hrw2 cB,by
  have:=World.ownsRow_lit (base:=w0.heap.size) (e:=5) (size:=1) W2 #[.int .u8 yb] 1 HC2.out.size (by decide) rfl
  rw [HYB.out]
  exact this,fun g e f=>by
  simp only [Value.ownBlock,Option.some.injEq]at e
  subst e
  have:=(S.lt hrw2 _ f).2
  omega⟩
 have HMV:Hid (Moved w0 v v'):=moved_from (by have:=HC1.out.size;rw [World.size_alloc];omega) hmv
 clear cA hown hlr hrw2 c2 hmv cB HY1 HC1 HRW1 HC2 y0 y1 y2 y3 HWS
 obtain⟨y0,y1,y2,y3⟩:=cells4y HYY.out
 go_wp2
 go_ret2
 exact⟨_,v',rfl,HM.out,HC3.out,HMV.out⟩
theorem tlay_any (S:WinSpec Win)(wb:World)(r:Nat)(v:Value)(n:Nat)(bs:List Nat)(sn a b c d k yb yl yd:Int)(hs:(⟨sn,a,b,c,d⟩:Stt).I)(hy:(⟨k,yb,yl,yd⟩:Sym).I)(hf:formed ⟨k,yb,yl,yd⟩=0)(w0:World)(hB:wb.heap.size≤w0.heap.size)(h:Win w0 wb.heap.size r v n bs)(hl:bs.length+273≤1152921504606846976):Calls Tryz.prog 80 #[.pointer (some ⟨r,0,none⟩),.agg #[.int .i64 sn,.int .i64 a,.int .i64 b,.int .i64 c,.int .i64 d],.agg #[.int .i64 k,.int .u8 yb,.int .i64 yl,.int .i64 yd]] w0 fun e w'=> ∃ov v',e= .returned (.tuple #[ov,.int .i64 (layA n bs ⟨sn,a,b,c,d⟩ ⟨k,yb,yl,yd⟩).2])∧Made Win wb.heap.size w0.heap.size r n (bs++(layA n bs ⟨sn,a,b,c,d⟩ ⟨k,yb,yl,yd⟩).1) (layA n bs ⟨sn,a,b,c,d⟩ ⟨k,yb,yl,yd⟩).1 ov v' w'∧Chg (Foot r v) w0 w'∧Moved w0 v v':=by
 have hk:=formed_kind hf
 simp only at hk
 have hz:sizeA ⟨k,yb,yl,yd⟩=if k=2∨k=3 then yl else 1:=by unfold sizeA;rw [if_neg (by simp [hf])]
 rcases hk with rfl|⟨rfl,_,_,h3,h4⟩|⟨rfl,_,_,h3,h4⟩|rfl
 ·exact tlay_lit S wb r v n bs sn a b c d yb yl yd hy w0 hB h hl
 ·have e:layA n bs ⟨sn,a,b,c,d⟩ ⟨2,yb,yl,yd⟩=(if inwD n bs yd then copyL yd.toNat bs yl.toNat else [],if inwD n bs yd then 0 else 7):=by
   unfold layA
   rw [if_neg (by simp),hz]
   show(if inwD n bs yd then(copyL yd.toNat bs yl.toNat,(0:Int))else([],7))=_
   split<;>rfl
  rw [e]
  exact tlay_match S wb r v n bs sn a b c d yb yl yd hs hy hf w0 hB h hl
 ·have hyd:yd=0∨yd=1∨yd=2∨yd=3:=by omega
  clear h3 h4
  rcases hyd with rfl|rfl|rfl|rfl
  ·have e:layA n bs ⟨sn,a,b,c,d⟩ ⟨3,yb,yl,0⟩=(if inwD n bs a then copyL a.toNat bs yl.toNat else [],if inwD n bs a then 0 else 7):=by
    unfold layA
    rw [if_neg (by simp),hz]
    show(if inwD n bs a then(copyL a.toNat bs yl.toNat,(0:Int))else([],7))=_
    split<;>rfl
   rw [e]
   exact tlay_rep0 S wb r v n bs sn a b c d yb yl hs hy hf w0 hB h hl
  ·have e:layA n bs ⟨sn,a,b,c,d⟩ ⟨3,yb,yl,1⟩=(if inwD n bs b then copyL b.toNat bs yl.toNat else [],if inwD n bs b then 0 else 7):=by
    unfold layA
    rw [if_neg (by simp),hz]
    show(if inwD n bs b then(copyL b.toNat bs yl.toNat,(0:Int))else([],7))=_
    split<;>rfl
   rw [e]
   exact tlay_rep1 S wb r v n bs sn a b c d yb yl hs hy hf w0 hB h hl
  ·have e:layA n bs ⟨sn,a,b,c,d⟩ ⟨3,yb,yl,2⟩=(if inwD n bs c then copyL c.toNat bs yl.toNat else [],if inwD n bs c then 0 else 7):=by
    unfold layA
    rw [if_neg (by simp),hz]
    show(if inwD n bs c then(copyL c.toNat bs yl.toNat,(0:Int))else([],7))=_
    split<;>rfl
   rw [e]
   exact tlay_rep2 S wb r v n bs sn a b c d yb yl hs hy hf w0 hB h hl
  ·have e:layA n bs ⟨sn,a,b,c,d⟩ ⟨3,yb,yl,3⟩=(if inwD n bs d then copyL d.toNat bs yl.toNat else [],if inwD n bs d then 0 else 7):=by
    unfold layA
    rw [if_neg (by simp),hz]
    show(if inwD n bs d then(copyL d.toNat bs yl.toNat,(0:Int))else([],7))=_
    split<;>rfl
   rw [e]
   exact tlay_rep3 S wb r v n bs sn a b c d yb yl hs hy hf w0 hB h hl
 ·have e:layA n bs ⟨sn,a,b,c,d⟩ ⟨4,yb,yl,yd⟩=(if inwD n bs a then copyL a.toNat bs (1:Int).toNat else [],if inwD n bs a then 0 else 7):=by
   unfold layA
   rw [if_neg (by simp),hz]
   show(if inwD n bs a then(copyL a.toNat bs (1:Int).toNat,(0:Int))else([],7))=_
   split<;>rfl
  rw [e]
  exact tlay_short S wb r v n bs sn a b c d yb yl yd hs hy hf w0 hB h hl
theorem app_lay {n:Nat}{bs:List Nat}{s t:Stt}{y:Sym}(h:nxt s y=(t,0)):app n bs s y=if(layA n bs s y).2=0 then((layA n bs s y).1,t,0)else([],zero,7):=by
 unfold app layA
 rw [h,if_neg (by simp)]
 split
 ·rfl
 ·split<;>rfl
theorem lay_no {n:Nat}{bs:List Nat}{s:Stt}{y:Sym}(h:(layA n bs s y).2≠0):layA n bs s y=([],7):=by
 unfold layA at h⊢
 by_cases h1:y.k=1
 ·rw [if_pos h1]at h
  exact absurd rfl h
 ·rw [if_neg h1]at h⊢
  by_cases h2:inwD n bs (distS s y)
  ·rw [if_pos h2]at h
   exact absurd rfl h
  ·rw [if_neg h2]
set_option maxHeartbeats 8000000 in
set_option maxRecDepth 100000 in
theorem tapply_any (S:WinSpec Win)(T:StSpec Tab)(KT: ∀ {w0 w w':World} {S:Nat→Prop},Tab w0→Tab w→Chg S w w'→(∀z,S z→w0.heap.size≤z)→Tab w')(wb:World)(r:Nat)(v:Value)(n:Nat)(bs:List Nat)(sn a b c d k yb yl yd:Int)(hs:(⟨sn,a,b,c,d⟩:Stt).I)(hy:(⟨k,yb,yl,yd⟩:Sym).I)(w0:World)(hTb:Tab wb)(hT:Tab w0)(hB:wb.heap.size≤w0.heap.size)(h:Win w0 wb.heap.size r v n bs)(hl:bs.length+273≤1152921504606846976):Calls Tryz.prog 38 #[.pointer (some ⟨r,0,none⟩),.agg #[.int .i64 sn,.int .i64 a,.int .i64 b,.int .i64 c,.int .i64 d],.agg #[.int .i64 k,.int .u8 yb,.int .i64 yl,.int .i64 yd]] w0 fun e w'=> ∃ov v',e= .returned (.tuple #[ov,stv (app n bs ⟨sn,a,b,c,d⟩ ⟨k,yb,yl,yd⟩).2.1,.int .i64 (app n bs ⟨sn,a,b,c,d⟩ ⟨k,yb,yl,yd⟩).2.2])∧Made Win wb.heap.size w0.heap.size r n (bs++(app n bs ⟨sn,a,b,c,d⟩ ⟨k,yb,yl,yd⟩).1) (app n bs ⟨sn,a,b,c,d⟩ ⟨k,yb,yl,yd⟩).1 ov v' w'∧Chg (Foot r v) w0 w'∧Moved w0 v v':=by
 have HS:Hid ((((w0.alloc (.cells #[.int .i64 sn,.int .i64 a,.int .i64 b,.int .i64 c,.int .i64 d] 88)).alloc (.cells #[.int .i64 k,.int .u8 yb,.int .i64 yl,.int .i64 yd] 34)).alloc (.cells #[.int .i64 0,.int .i64 0,.int .i64 0,.int .i64 0,.int .i64 0] 88)).heap[w0.heap.size]?=some (.cells #[.int .i64 sn,.int .i64 a,.int .i64 b,.int .i64 c,.int .i64 d] 88 (0,0))):=(Below.heap_alloc _ _ _ (by simp;omega)).trans ((Below.heap_alloc _ _ _ (by simp)).trans (heap_alloc_last w0 _))
 have HY:Hid ((((w0.alloc (.cells #[.int .i64 sn,.int .i64 a,.int .i64 b,.int .i64 c,.int .i64 d] 88)).alloc (.cells #[.int .i64 k,.int .u8 yb,.int .i64 yl,.int .i64 yd] 34)).alloc (.cells #[.int .i64 0,.int .i64 0,.int .i64 0,.int .i64 0,.int .i64 0] 88)).heap[w0.heap.size+1]?=some (.cells #[.int .i64 k,.int .u8 yb,.int .i64 yl,.int .i64 yd] 34 (0,0))):=by
  have:=heap_alloc_last (w0.alloc (.cells #[.int .i64 sn,.int .i64 a,.int .i64 b,.int .i64 c,.int .i64 d] 88)) (.cells #[.int .i64 k,.int .u8 yb,.int .i64 yl,.int .i64 yd] 34)
  rw [World.size_alloc]at this
  exact(Below.heap_alloc _ _ _ (by simp)).trans this
 have HZ:Hid ((((w0.alloc (.cells #[.int .i64 sn,.int .i64 a,.int .i64 b,.int .i64 c,.int .i64 d] 88)).alloc (.cells #[.int .i64 k,.int .u8 yb,.int .i64 yl,.int .i64 yd] 34)).alloc (.cells #[.int .i64 0,.int .i64 0,.int .i64 0,.int .i64 0,.int .i64 0] 88)).heap[w0.heap.size+1+1]?=some (.cells #[.int .i64 0,.int .i64 0,.int .i64 0,.int .i64 0,.int .i64 0] 88 (0,0))):=by
  have:=heap_alloc_last ((w0.alloc (.cells #[.int .i64 sn,.int .i64 a,.int .i64 b,.int .i64 c,.int .i64 d] 88)).alloc (.cells #[.int .i64 k,.int .u8 yb,.int .i64 yl,.int .i64 yd] 34)) (.cells #[.int .i64 0,.int .i64 0,.int .i64 0,.int .i64 0,.int .i64 0] 88)
  rw [World.size_alloc,World.size_alloc]at this
  exact this
 have HC:Hid (Chg (fun _=>False) w0 (((w0.alloc (.cells #[.int .i64 sn,.int .i64 a,.int .i64 b,.int .i64 c,.int .i64 d] 88)).alloc (.cells #[.int .i64 k,.int .u8 yb,.int .i64 yl,.int .i64 yd] 34)).alloc (.cells #[.int .i64 0,.int .i64 0,.int .i64 0,.int .i64 0,.int .i64 0] 88))):=chg_then (chg_then (chg_one _ _) (chg_one _ _)) (chg_one _ _)
 obtain⟨t,er,hx⟩: ∃t er,nxt ⟨sn,a,b,c,d⟩ ⟨k,yb,yl,yd⟩=(t,er):=⟨_,_,rfl⟩
 have HN:Hid (∀w',Tab w'→Calls Tryz.prog 70 #[.agg #[.int .i64 sn,.int .i64 a,.int .i64 b,.int .i64 c,.int .i64 d],.agg #[.int .i64 k,.int .u8 yb,.int .i64 yl,.int .i64 yd]] w' fun e w''=>e= .returned (.tuple #[.agg #[.int .i64 t.n,.int .i64 t.a,.int .i64 t.b,.int .i64 t.c,.int .i64 t.d],.int .i64 er])∧Chg (fun _=>False) w' w''):=fun w' ht=>by
  have:=T.next ⟨sn,a,b,c,d⟩ ⟨k,yb,yl,yd⟩ w' ht hs hy
  rw [hx]at this
  exact this
 have HX:Hid (nxt ⟨sn,a,b,c,d⟩ ⟨k,yb,yl,yd⟩=(t,er)):=hx
 have HRW:Hid (Win w0 wb.heap.size r v n bs):=h
 have HT:Hid (Tab w0∧Tab wb):=⟨hT,hTb⟩
 obtain⟨s0,s1,s2,s3,s4⟩:=cells5 HS.out
 obtain⟨y0,y1,y2,y3⟩:=cells4y HY.out
 clear hx h hT hTb
 go_enter Tryz.func38,Tryz.ntmps38
 go_wp2_with fail
 generalize ((w0.alloc (.cells #[.int .i64 sn,.int .i64 a,.int .i64 b,.int .i64 c,.int .i64 d] 88)).alloc (.cells #[.int .i64 k,.int .u8 yb,.int .i64 yl,.int .i64 yd] 34)).alloc (.cells #[.int .i64 0,.int .i64 0,.int .i64 0,.int .i64 0,.int .i64 0] 88)=W at*
 refine(HN.out _ (T.keep HT.out.1 HC.out)).mono ?_
 rintro z w1 ⟨rfl,c1⟩
 have cN:=chg_one w1 (.cells #[.int .i64 t.n,.int .i64 t.a,.int .i64 t.b,.int .i64 t.c,.int .i64 t.d] 88)
 have hNN:=heap_alloc_last w1 (.cells #[.int .i64 t.n,.int .i64 t.a,.int .i64 t.b,.int .i64 t.c,.int .i64 t.d] 88)
 have HS1:Hid ((w1.alloc (.cells #[.int .i64 t.n,.int .i64 t.a,.int .i64 t.b,.int .i64 t.c,.int .i64 t.d] 88)).heap[w0.heap.size]?=some (.cells #[.int .i64 sn,.int .i64 a,.int .i64 b,.int .i64 c,.int .i64 d] 88 (0,0))):=blk_keep (blk_keep HS.out c1 (fun f=>f)) cN (fun f=>f)
 have HY1:Hid ((w1.alloc (.cells #[.int .i64 t.n,.int .i64 t.a,.int .i64 t.b,.int .i64 t.c,.int .i64 t.d] 88)).heap[w0.heap.size+1]?=some (.cells #[.int .i64 k,.int .u8 yb,.int .i64 yl,.int .i64 yd] 34 (0,0))):=blk_keep (blk_keep HY.out c1 (fun f=>f)) cN (fun f=>f)
 have HZ1:Hid ((w1.alloc (.cells #[.int .i64 t.n,.int .i64 t.a,.int .i64 t.b,.int .i64 t.c,.int .i64 t.d] 88)).heap[w0.heap.size+1+1]?=some (.cells #[.int .i64 0,.int .i64 0,.int .i64 0,.int .i64 0,.int .i64 0] 88 (0,0))):=blk_keep (blk_keep HZ.out c1 (fun f=>f)) cN (fun f=>f)
 have HC1:Hid (Chg (fun _=>False) w0 (w1.alloc (.cells #[.int .i64 t.n,.int .i64 t.a,.int .i64 t.b,.int .i64 t.c,.int .i64 t.d] 88))):=chg_then (chg_then HC.out c1) cN
 have HNN:Hid ((w1.alloc (.cells #[.int .i64 t.n,.int .i64 t.a,.int .i64 t.b,.int .i64 t.c,.int .i64 t.d] 88)).heap[w1.heap.size]?=some (.cells #[.int .i64 t.n,.int .i64 t.a,.int .i64 t.b,.int .i64 t.c,.int .i64 t.d] 88 (0,0))):=hNN
 have HG:Hid (w0.heap.size+1+1<w1.heap.size):=lt_of_blk (blk_keep HZ.out c1 (fun f=>f))
 clear c1 cN hNN HN HS HY HZ HC s0 s1 s2 s3 s4 y0 y1 y2 y3
 by_cases he:er=0
 rotate_left
 ·have e0:(er==0)=false:=by rw [beq_eq_false_iff_ne];exact he
  have e0':(er !=0)=true:=by simp [he]
  have e0'':decide (er=0)=false:=decide_eq_false he
  have HAP:Hid ((app n bs ⟨sn,a,b,c,d⟩ ⟨k,yb,yl,yd⟩)=([],zero,er)):=by
   show _=_
   unfold app
   rw [HX.out,if_pos he]
  obtain⟨⟨p0,f0⟩,⟨p1,f1⟩,⟨p2,f2⟩,⟨p3,f3⟩,⟨p4,f4⟩,hblk,hchg⟩:=put5_of HZ1.out (.int .i64 0) (.int .i64 0) (.int .i64 0) (.int .i64 0) (.int .i64 0)
  have HE:Hid _:=cells5 hblk
  have HCE:Hid (Chg (fun _=>False) w0 _):=HC1.out.trans hchg (fun z e=> .inr (by omega))
  clear hblk hchg he HS1 HY1 HZ1 HC1 HNN
  go_upto_region 3 with fail
  generalize w1.alloc (.cells #[.int .i64 t.n,.int .i64 t.a,.int .i64 t.b,.int .i64 t.c,.int .i64 t.d] 88)=W at*
  go_wp2
  obtain⟨q0,q1,q2,q3,q4⟩:=HE.out
  refine bodyPost_ret (v:= .tuple #[.slice none 0 0,.agg #[.int .i64 0,.int .i64 0,.int .i64 0,.int .i64 0,.int .i64 0],.int .i64 er]) (by simp [results,Tryz.results38,go_sem,q0,q1,q2,q3,q4]) rfl ?_
  rw [HAP.out]
  refine⟨_,v,rfl,⟨?_,World.ownsRow_nil _ _ _ _,fun g e=>(nomatch e)⟩,HCE.out.mono (fun _ f=>f.elim),fun g e=> .inl e⟩
  rw [List.append_nil]
  exact S.new HRW.out HCE.out
 ·subst he
  have HRF:Hid (right ⟨sn,a,b,c,d⟩∧formed ⟨k,yb,yl,yd⟩=0):=nxt_err (by rw [HX.out])
  have HRW1:Hid (Win (w1.alloc (.cells #[.int .i64 t.n,.int .i64 t.a,.int .i64 t.b,.int .i64 t.c,.int .i64 t.d] 88)) wb.heap.size r v n bs):=S.new HRW.out HC1.out
  have HBB:Hid (wb.heap.size≤w0.heap.size):=hB
  obtain⟨LX,LE,hla⟩: ∃LX LE,(layA n bs ⟨sn,a,b,c,d⟩ ⟨k,yb,yl,yd⟩)=(LX,LE):=⟨_,_,rfl⟩
  have HLA:Hid ((layA n bs ⟨sn,a,b,c,d⟩ ⟨k,yb,yl,yd⟩)=(LX,LE)):=hla
  have HAP:Hid ((app n bs ⟨sn,a,b,c,d⟩ ⟨k,yb,yl,yd⟩)=if LE=0 then(LX,t,0)else([],zero,7)):=by
   have h9:=app_lay (n:=n) (bs:=bs) HX.out
   rw [hla]at h9
   exact h9
  have HLY:Hid (∀w_,Win w_ wb.heap.size r v n bs→wb.heap.size≤w_.heap.size→Calls Tryz.prog 80 #[.pointer (some ⟨r,0,none⟩),.agg #[.int .i64 sn,.int .i64 a,.int .i64 b,.int .i64 c,.int .i64 d],.agg #[.int .i64 k,.int .u8 yb,.int .i64 yl,.int .i64 yd]] w_ fun e w'=> ∃ov v',e= .returned (.tuple #[ov,.int .i64 LE])∧Made Win wb.heap.size w_.heap.size r n (bs++LX) LX ov v' w'∧Chg (Foot r v) w_ w'∧Moved w_ v v'):=fun w_ hw hb=>by
   have h9:=tlay_any S wb r v n bs sn a b c d k yb yl yd hs hy HRF.out.2 w_ hb hw hl
   rw [hla]at h9
   exact h9
  have HLR:Hid (∀z,Foot r v z→z<w0.heap.size):=fun z f=>(S.lt HRW.out z f).2
  obtain⟨x0,x1,x2,x3,x4⟩:=cells5 HS1.out
  obtain⟨y0,y1,y2,y3⟩:=cells4y HY1.out
  clear hla hs hy HX
  go_wp2_with fail
  generalize w1.alloc (.cells #[.int .i64 t.n,.int .i64 t.a,.int .i64 t.b,.int .i64 t.c,.int .i64 t.d] 88)=W1 at*
  refine(HLY.out _ HRW1.out (by have:=HBB.out;have:=HC1.out.size;omega)).mono ?_
  rintro z w7 ⟨ov,v',rfl,hm7,c7,hmv7⟩
  have hlr:=HLR.out
  have hsz1:=HC1.out.size
  have HZ:Hid (w7.heap[w0.heap.size+1+1]?=some (.cells #[.int .i64 0,.int .i64 0,.int .i64 0,.int .i64 0,.int .i64 0] 88 (0,0))):=blk_keep HZ1.out c7 (fun f=>by have:=hlr _ f;omega)
  have HN:Hid (w7.heap[w1.heap.size]?=some (.cells #[.int .i64 t.n,.int .i64 t.a,.int .i64 t.b,.int .i64 t.c,.int .i64 t.d] 88 (0,0))):=blk_keep HNN.out c7 (fun f=>by have:=hlr _ f;have:=HG.out;omega)
  have HM:Hid (Made Win wb.heap.size w0.heap.size r n (bs++LX) LX ov v' w7):=hm7.base hsz1
  have HMV:Hid (Moved w0 v v'):=moved_from hsz1 hmv7
  have HC2:Hid (Chg (Foot r v) w0 w7):=(HC1.out.mono (fun _ f=>f.elim)).trans c7 (fun z f=> .inl f)
  clear hm7 c7 hmv7 hlr hsz1 HS1 HY1 HZ1 HC1 HNN HRW1 HLY HLR x0 x1 x2 x3 x4 y0 y1 y2 y3
  by_cases hle:LE=0
  ·subst hle
   have HAQ:Hid ((app n bs ⟨sn,a,b,c,d⟩ ⟨k,yb,yl,yd⟩)=(LX,t,0)):=HAP.out.trans (if_pos rfl)
   clear HAP
   go_wp2_with fail
   refine wp_region_setM (mk:=fun u=> #[_,_,_,_,_,_,u 6,_,_,_,_,_,_,_,_,_,_,_,_,_,_,_,_,_,_,_,_,_,_,_,_,_,_,u 33,u 34]) (G:=lookG [(33,ov),(34,.agg #[.int .i64 t.n,.int .i64 t.a,.int .i64 t.b,.int .i64 t.c,.int .i64 t.d]),(6,ov)]) (J:=fun L_ u ww=>Chg (fun z=>z=w0.heap.size+1+1) w7 ww∧(L_ 3=false→ww.heap[w0.heap.size+1+1]?=some (.cells #[.int .i64 0,.int .i64 0,.int .i64 0,.int .i64 0,.int .i64 0] 88 (0,0)))∧(L_ 3=true→ww.heap[w0.heap.size+1+1]?=some (.cells #[.int .i64 t.n,.int .i64 t.a,.int .i64 t.b,.int .i64 t.c,.int .i64 t.d] 88 (0,0)))) [3] ([]) (fun t=>if t=6 then .slice none 0 0 else undef) rfl (by kernel_rfl) 4 _ rfl rfl (by kernel_rfl) (by kernel_rfl) ?_ ?_ ?_ ?_ ?_
   ·repeat (refine⟨fun _ _=>rfl,?_⟩)
    exact trivial
   ·intro L_ L2 u u2 ww h hj
    have l3:L_ 3=L2 3:=(h 3 (by decide)).1
    show _∧_
    rw [←l3]
    exact hj
   ·exact⟨(Chg.refl _ w7).drew,fun _=>HZ.out,(fun h=>nomatch h)⟩
   ·refine⟨?_,?_,?_,?_,trivial⟩
    ·show StepRS _ _ _ _ _ _ _ _
     unfold StepRS
     intro L_ u w_ hj hd K hK
     clear hd
     clear hj
     go_simp
     exact hK.out _ rfl
    ·show StepRS _ _ _ _ _ _ _ _
     unfold StepRS
     intro L_ u w_ hj hd K hK
     clear hd
     obtain⟨x0,x1,x2,x3,x4⟩:=cells5 (blk_keep HN.out hj.1 (by have:=HG.out;omega))
     clear hj
     go_simp
     exact hK.out _ rfl
    ·show StepRS _ _ _ _ _ _ _ _
     unfold StepRS
     intro L_ u w_ hj hd K hK
     have h33:u 33=ov:=hd.get 0 (by kernel_rfl)
     clear hd
     simp only [h33]at hK
     clear hj
     go_simp
     exact hK.out _ rfl
    ·show StepWS _ _ _ _ _ _ _ _ _
     unfold StepWS
     intro L_ u w_ hj hli hwt hd K hK
     have h34:u 34= .agg #[.int .i64 t.n,.int .i64 t.a,.int .i64 t.b,.int .i64 t.c,.int .i64 t.d]:=hd.get 1 (by kernel_rfl)
     clear hd
     simp only [h34]at hK
     have hz:=hj.2.1 hli
     obtain⟨⟨p0,f0⟩,⟨p1,f1⟩,⟨p2,f2⟩,⟨p3,f3⟩,⟨p4,f4⟩,hblk,hchg⟩:=put5_of hz (.int .i64 t.n) (.int .i64 t.a) (.int .i64 t.b) (.int .i64 t.c) (.int .i64 t.d)
     have HE:Hid _:=And.intro (Chg.trans hj.1 hchg (fun z e=> .inl e)) hblk
     clear hj hz hblk hchg
     go_simp
     exact hK.out undef _ ⟨HE.out.1,(fun h=>nomatch h),fun _=>HE.out.2⟩ trivial
   ·intro u w9 hj hA K hK
    obtain⟨hc9,_,hz9⟩:=hj
    have hz9:=hz9 rfl
    have e6:u 6=ov:=hA.at 6 (by kernel_rfl)
    have HE:Hid _:=cells5 hz9
    have HM9:Hid _:=HM.out.off S.like HZ.out (by decide) (by decide) hc9
    have HC9:Hid _:=HC2.out.trans hc9 (fun z e=> .inr (by omega))
    clear hA hc9 hz9 HM HC2 HZ HN
    go_simp
    refine hK.out _ _ ?_
    clear hK
    go_wp2
    obtain⟨q0,q1,q2,q3,q4⟩:=HE.out
    refine bodyPost_ret (v:= .tuple #[ov,.agg #[.int .i64 t.n,.int .i64 t.a,.int .i64 t.b,.int .i64 t.c,.int .i64 t.d],.int .i64 0]) (by simp [results,Tryz.results38,go_sem,q0,q1,q2,q3,q4]) rfl ?_
    rw [HAQ.out]
    exact⟨_,rfl,v',HM9.out,HC9.out,HMV.out⟩
  ·have HLZ:Hid (LX=[]∧LE=7):=by
    have h9:=lay_no (n:=n) (bs:=bs) (s:=⟨sn,a,b,c,d⟩) (y:=⟨k,yb,yl,yd⟩) (by rw [HLA.out];exact hle)
    rw [HLA.out]at h9
    simp only [Prod.mk.injEq]at h9
    exact h9
   obtain⟨rfl,rfl⟩:=HLZ.out
   have HAQ:Hid ((app n bs ⟨sn,a,b,c,d⟩ ⟨k,yb,yl,yd⟩)=([],zero,7)):=HAP.out.trans (if_neg hle)
   clear HAP hle HLA HLZ
   obtain⟨⟨p0,f0⟩,⟨p1,f1⟩,⟨p2,f2⟩,⟨p3,f3⟩,⟨p4,f4⟩,hblk,hchg⟩:=put5_of HZ.out (.int .i64 0) (.int .i64 0) (.int .i64 0) (.int .i64 0) (.int .i64 0)
   have HE:Hid _:=cells5 hblk
   have HM9:Hid _:=HM.out.off S.like HZ.out (by decide) (by decide) hchg
   have HCE:Hid (Chg (Foot r v) w0 _):=HC2.out.trans hchg (fun z e=> .inr (by omega))
   clear hblk hchg HM HC2 HZ HN
   go_upto_region 6 with fail
   go_wp2
   obtain⟨q0,q1,q2,q3,q4⟩:=HE.out
   refine bodyPost_ret (v:= .tuple #[.slice none 0 0,.agg #[.int .i64 0,.int .i64 0,.int .i64 0,.int .i64 0,.int .i64 0],.int .i64 7]) (by simp [results,Tryz.results38,go_sem,q0,q1,q2,q3,q4]) rfl ?_
   rw [HAQ.out]
   exact⟨_,v',rfl,⟨HM9.out.win,World.ownsRow_nil _ _ _ _,fun g e=>(nomatch e)⟩,HCE.out,HMV.out⟩
end Go.Proofs.YthideplpcnhncaaGreatDoor
