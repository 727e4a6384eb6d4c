/- Of no statement by itself: Jg (without blanks and remarks). -/
import Derived.Test.YthideplpcnhncaaGreatDoorJf
namespace Go.Proofs.YthideplpcnhncaaGreatDoor
open Go.RowKit
open St12 Sy13 Lz14
set_option linter.unusedVariables false
set_option linter.unusedSimpArgs false
def kq_len7 (q:Nat):Nat:=if q=0 then 7 else if q=1 then 8 else if q=2 then 9 else if q=3 then 10 else 11
structure I_len7 (W:World) (B:Nat) (p:Prp) (pr:Nm→Nat→Int) (D1:Dir) (V1:Lst) (D:Dir) (V:Lst) (g:Nat) (q:Nat) (x7 x12 x17 x22 x23:Value) (w:World):Prop where
 pt:Part w B p pr (kq_len7 q) D V
 ak:Alk 7 D1 V1 D V
 ch:Chg (fun _=>False) W w
 e7:0<q→x7=ptV (D 7 0)
 e12:1<q→x12=V 8
 e17:2<q→x17=V 9
 e22:3<q→x22=ptV (D 10 0)
 e23:4<q→x23= .agg (lenC D V 7)
 z:w.heap[g]?=some (.cells (#[.pointer none,.slice none 0 0,.slice none 0 0,.pointer none]) 80 (0,0))
def J_len7 (W:World)(B:Nat)(p:Prp)(pr:Nm→Nat→Int)(D1:Dir)(V1:Lst)(g:Nat)(q:Nat)(x7 x12 x17 x22 x23:Value)(w:World):Prop:= ∃D V,I_len7 W B p pr D1 V1 D V g q x7 x12 x17 x22 x23 w
set_option maxHeartbeats 8000000 in
set_option maxRecDepth 100000 in
theorem lenfork7 (p:Prp)(hp:allow p)(pr:Nm→Nat→Int)(B B0 a:Nat)(D0:Dir)(V0:Lst)(D:Dir)(V:Lst)(w0:World)(h0:Part w0 B0 p pr 18 D0 V0)(h:Part w0 B p pr 7 D V)(hB:B≤w0.heap.size)(c0:w0.cell? ⟨a,10,none⟩=some (ptV (D0 7 0)))(c1:w0.cell? ⟨a,11,none⟩=some (V0 8))(c2:w0.cell? ⟨a,12,none⟩=some (V0 9))(c3:w0.cell? ⟨a,13,none⟩=some (ptV (D0 10 0))):Calls Tryz.prog 130 #[.pointer (some ⟨a,10,none⟩)] w0 fun e w'=> ∃D' V',e= .returned (.agg (lenC D' V' 7))∧Part w' B p pr 11 D' V'∧Alk 7 D V D' V'∧Chg (fun _=>False) w0 w':=by
 have cA:=chg_one w0 (.cells #[.pointer none,.slice none 0 0,.slice none 0 0,.pointer none] 80)
 have HB:Hid (B≤(w0.alloc (.cells #[.pointer none,.slice none 0 0,.slice none 0 0,.pointer none] 80)).heap.size):=Nat.le_trans hB cA.size
 have HZ:Hid ((w0.alloc (.cells #[.pointer none,.slice none 0 0,.slice none 0 0,.pointer none] 80)).heap[w0.heap.size]?=some (.cells #[.pointer none,.slice none 0 0,.slice none 0 0,.pointer none] 80 (0,0))):=heap_alloc_last _ _
 have HPT:Hid (Part (w0.alloc (.cells #[.pointer none,.slice none 0 0,.slice none 0 0,.pointer none] 80)) B p pr 7 D V):=h.new cA
 have HP0:Hid (Part (w0.alloc (.cells #[.pointer none,.slice none 0 0,.slice none 0 0,.pointer none] 80)) B0 p pr 18 D0 V0):=h0.new cA
 have HC:Hid (Chg (fun _=>False) w0 (w0.alloc (.cells #[.pointer none,.slice none 0 0,.slice none 0 0,.pointer none] 80))):=cA
 have HX10:Hid _:=cell_chg c0 cA
 have HX11:Hid _:=cell_chg c1 cA
 have HX12:Hid _:=cell_chg c2 cA
 have HX13:Hid _:=cell_chg c3 cA
 clear h0 h cA hB c0 c1 c2 c3
 go_enter Tryz.func130,Tryz.ntmps130
 go_wp2_with fail
 generalize w0.alloc (.cells #[.pointer none,.slice none 0 0,.slice none 0 0,.pointer none] 80)=W at*
 refine wp_region_setM (mk:=fun u=> #[_,_,_,u 3,u 4,u 5,u 6,u 7,u 8,u 9,u 10,u 11,u 12,u 13,u 14,u 15,u 16,u 17,u 18,u 19,u 20,u 21,u 22,u 23]) (G:=lookG [(3,.pointer (some ⟨a,10,none⟩)),(4,.pointer (some ⟨a,10,none⟩)),(5,.pointer (some ⟨a,10,none⟩)),(6,ptV (D0 7 0)),(8,.pointer (some ⟨a,10,none⟩)),(9,.pointer (some ⟨a,10,none⟩)),(10,.pointer (some ⟨a,11,none⟩)),(11,V0 8),(13,.pointer (some ⟨a,10,none⟩)),(14,.pointer (some ⟨a,10,none⟩)),(15,.pointer (some ⟨a,12,none⟩)),(16,V0 9),(18,.pointer (some ⟨a,10,none⟩)),(19,.pointer (some ⟨a,10,none⟩)),(20,.pointer (some ⟨a,13,none⟩)),(21,ptV (D0 10 0))]) (J:=fun L_ u ww=> ∃q,q≤5∧L_ 4=decide (0<q)∧L_ 9=decide (1<q)∧L_ 14=decide (2<q)∧L_ 19=decide (3<q)∧L_ 20=decide (4<q)∧J_len7 W B p pr D V w0.heap.size q (u 7) (u 12) (u 17) (u 22) (u 23) ww) [4,9,14,19,20] ([]) (fun _=>undef) rfl (by kernel_rfl) 21 _ rfl rfl (by kernel_rfl) (by kernel_rfl) ?_ ?_ ?_ ?_ ?_
 ·repeat (refine⟨fun _ _=>rfl,?_⟩)
  exact trivial
 ·intro L_ L2 u u2 ww h hj
  obtain⟨q,hq,l4,l9,l14,l19,l20,hs⟩:=hj
  have e7_:u 7=u2 7:=(h 4 (by decide)).2
  have e12_:u 12=u2 12:=(h 9 (by decide)).2
  have e17_:u 17=u2 17:=(h 14 (by decide)).2
  have e22_:u 22=u2 22:=(h 19 (by decide)).2
  have e23_:u 23=u2 23:=(h 20 (by decide)).2
  rw [e7_,e12_,e17_,e22_,e23_]at hs
  exact⟨q,hq,((h 4 (by decide)).1).symm.trans l4,((h 9 (by decide)).1).symm.trans l9,((h 14 (by decide)).1).symm.trans l14,((h 19 (by decide)).1).symm.trans l19,((h 20 (by decide)).1).symm.trans l20,hs⟩
 ·exact⟨0,by omega,rfl,rfl,rfl,rfl,rfl,⟨D,V,HPT.out.new (Chg.refl _ W).drew,Alk.refl _ _ _,(Chg.refl _ W).drew,(fun e=>absurd e (by omega)),(fun e=>absurd e (by omega)),(fun e=>absurd e (by omega)),(fun e=>absurd e (by omega)),(fun e=>absurd e (by omega)),HZ.out⟩⟩
 ·refine⟨?_,?_,?_,?_,?_,?_,?_,?_,?_,?_,?_,?_,?_,?_,?_,?_,?_,?_,?_,?_,?_,trivial⟩
  ·show StepRS _ _ _ _ _ _ _ _
   unfold StepRS
   intro L_ u w_ hj hd K hK
   clear hd
   obtain⟨q,hq,l4,l9,l14,l19,l20,hs⟩:=hj
   clear l4 l9 l14 l19 l20
   clear hs hq
   go_simp
   exact hK.out _ rfl
  ·show StepRS _ _ _ _ _ _ _ _
   unfold StepRS
   intro L_ u w_ hj hd K hK
   have h3:u 3= .pointer (some ⟨a,10,none⟩):=hd.get 0 (by kernel_rfl)
   clear hd
   simp only [h3]at hK
   obtain⟨q,hq,l4,l9,l14,l19,l20,hs⟩:=hj
   clear l4 l9 l14 l19 l20
   clear hs hq
   go_simp
   exact hK.out _ rfl
  ·show StepRS _ _ _ _ _ _ _ _
   unfold StepRS
   intro L_ u w_ hj hd K hK
   have h4:u 4= .pointer (some ⟨a,10,none⟩):=hd.get 1 (by kernel_rfl)
   clear hd
   simp only [h4]at hK
   obtain⟨q,hq,l4,l9,l14,l19,l20,hs⟩:=hj
   clear l4 l9 l14 l19 l20
   clear hs hq
   go_simp
   exact hK.out _ rfl
  ·show StepRS _ _ _ _ _ _ _ _
   unfold StepRS
   intro L_ u w_ hj hd K hK
   have h5:u 5= .pointer (some ⟨a,10,none⟩):=hd.get 2 (by kernel_rfl)
   clear hd
   simp only [h5]at hK
   obtain⟨q,hq,l4,l9,l14,l19,l20,hs⟩:=hj
   clear l4 l9 l14 l19 l20
   obtain⟨D_,V_,hs⟩:=hs
   have hx:=cell_chg HX10.out hs.ch
   clear hs hq
   go_simp
   exact hK.out _ rfl
  ·show StepWS _ _ _ _ _ _ _ _ _
   unfold StepWS
   intro L_ u w_ hj hli hwt hd K hK
   have h6:u 6=ptV (D0 7 0):=hd.get 3 (by kernel_rfl)
   clear hd
   simp only [h6]at hK
   obtain⟨q,hq,l4,l9,l14,l19,l20,hs⟩:=hj
   have kq: ¬0<q:=fun e=>by rw [l4,decide_eq_true e]at hli;cases hli
   obtain rfl:q=0:=by omega
   clear kq hq
   obtain⟨D_,V_,hs⟩:=hs
   go_simp
   refine Calls.mono (pfork (m:=7) hp (HP0.out.new hs.ch) hs.pt (by omega) (by have:=hs.ch.size;have:=HB.out;omega) rfl rfl) ?_
   rintro z w2 ⟨D2,V2,rfl,hp2,hk2,c2⟩
   exact hK.out _ w2 ⟨1,by omega,rfl,l9,l14,l19,l20,⟨D2,V2,hp2,hs.ak.trans hk2 (by decide),chg_then hs.ch c2,(fun _=>rfl),(fun e=>absurd e (by omega)),(fun e=>absurd e (by omega)),(fun e=>absurd e (by omega)),(fun e=>absurd e (by omega)),blk_keep hs.z c2 (fun f=>f)⟩⟩ trivial
  ·show StepRS _ _ _ _ _ _ _ _
   unfold StepRS
   intro L_ u w_ hj hd K hK
   clear hd
   obtain⟨q,hq,l4,l9,l14,l19,l20,hs⟩:=hj
   clear l4 l9 l14 l19 l20
   clear hs hq
   go_simp
   exact hK.out _ rfl
  ·show StepRS _ _ _ _ _ _ _ _
   unfold StepRS
   intro L_ u w_ hj hd K hK
   have h8:u 8= .pointer (some ⟨a,10,none⟩):=hd.get 5 (by kernel_rfl)
   clear hd
   simp only [h8]at hK
   obtain⟨q,hq,l4,l9,l14,l19,l20,hs⟩:=hj
   clear l4 l9 l14 l19 l20
   clear hs hq
   go_simp
   exact hK.out _ rfl
  ·show StepRS _ _ _ _ _ _ _ _
   unfold StepRS
   intro L_ u w_ hj hd K hK
   have h9:u 9= .pointer (some ⟨a,10,none⟩):=hd.get 6 (by kernel_rfl)
   clear hd
   simp only [h9]at hK
   obtain⟨q,hq,l4,l9,l14,l19,l20,hs⟩:=hj
   clear l4 l9 l14 l19 l20
   clear hs hq
   go_simp
   exact hK.out _ rfl
  ·show StepRS _ _ _ _ _ _ _ _
   unfold StepRS
   intro L_ u w_ hj hd K hK
   have h10:u 10= .pointer (some ⟨a,11,none⟩):=hd.get 7 (by kernel_rfl)
   clear hd
   simp only [h10]at hK
   obtain⟨q,hq,l4,l9,l14,l19,l20,hs⟩:=hj
   clear l4 l9 l14 l19 l20
   obtain⟨D_,V_,hs⟩:=hs
   have hx:=cell_chg HX11.out hs.ch
   clear hs hq
   go_simp
   exact hK.out _ rfl
  ·show StepWS _ _ _ _ _ _ _ _ _
   unfold StepWS
   intro L_ u w_ hj hli hwt hd K hK
   have h11:u 11=V0 8:=hd.get 8 (by kernel_rfl)
   clear hd
   simp only [h11]at hK
   obtain⟨q,hq,l4,l9,l14,l19,l20,hs⟩:=hj
   have kq: ¬1<q:=fun e=>by rw [l9,decide_eq_true e]at hli;cases hli
   have kw:L_ 4=true:=hwt ⟨4,.chain⟩ (by simp) rfl
   rw [l4,decide_eq_true_eq]at kw
   obtain rfl:q=1:=by omega
   clear kq hq kw
   obtain⟨D_,V_,hs⟩:=hs
   go_simp
   refine Calls.mono (pforks (m:=8) hp (HP0.out.new hs.ch) hs.pt (by omega) (by have:=hs.ch.size;have:=HB.out;omega) rfl) ?_
   rintro z w2 ⟨D2,V2,rfl,hp2,hk2,c2⟩
   exact hK.out _ w2 ⟨2,by omega,l4,rfl,l14,l19,l20,⟨D2,V2,hp2,hs.ak.trans hk2 (by decide),chg_then hs.ch c2,(fun _=>(hs.e7 (by omega)).trans (by rw [(hk2 7 (by decide)).1])),(fun _=>rfl),(fun e=>absurd e (by omega)),(fun e=>absurd e (by omega)),(fun e=>absurd e (by omega)),blk_keep hs.z c2 (fun f=>f)⟩⟩ trivial
  ·show StepRS _ _ _ _ _ _ _ _
   unfold StepRS
   intro L_ u w_ hj hd K hK
   clear hd
   obtain⟨q,hq,l4,l9,l14,l19,l20,hs⟩:=hj
   clear l4 l9 l14 l19 l20
   clear hs hq
   go_simp
   exact hK.out _ rfl
  ·show StepRS _ _ _ _ _ _ _ _
   unfold StepRS
   intro L_ u w_ hj hd K hK
   have h13:u 13= .pointer (some ⟨a,10,none⟩):=hd.get 10 (by kernel_rfl)
   clear hd
   simp only [h13]at hK
   obtain⟨q,hq,l4,l9,l14,l19,l20,hs⟩:=hj
   clear l4 l9 l14 l19 l20
   clear hs hq
   go_simp
   exact hK.out _ rfl
  ·show StepRS _ _ _ _ _ _ _ _
   unfold StepRS
   intro L_ u w_ hj hd K hK
   have h14:u 14= .pointer (some ⟨a,10,none⟩):=hd.get 11 (by kernel_rfl)
   clear hd
   simp only [h14]at hK
   obtain⟨q,hq,l4,l9,l14,l19,l20,hs⟩:=hj
   clear l4 l9 l14 l19 l20
   clear hs hq
   go_simp
   exact hK.out _ rfl
  ·show StepRS _ _ _ _ _ _ _ _
   unfold StepRS
   intro L_ u w_ hj hd K hK
   have h15:u 15= .pointer (some ⟨a,12,none⟩):=hd.get 12 (by kernel_rfl)
   clear hd
   simp only [h15]at hK
   obtain⟨q,hq,l4,l9,l14,l19,l20,hs⟩:=hj
   clear l4 l9 l14 l19 l20
   obtain⟨D_,V_,hs⟩:=hs
   have hx:=cell_chg HX12.out hs.ch
   clear hs hq
   go_simp
   exact hK.out _ rfl
  ·show StepWS _ _ _ _ _ _ _ _ _
   unfold StepWS
   intro L_ u w_ hj hli hwt hd K hK
   have h16:u 16=V0 9:=hd.get 13 (by kernel_rfl)
   clear hd
   simp only [h16]at hK
   obtain⟨q,hq,l4,l9,l14,l19,l20,hs⟩:=hj
   have kq: ¬2<q:=fun e=>by rw [l14,decide_eq_true e]at hli;cases hli
   have kw:L_ 9=true:=hwt ⟨9,.chain⟩ (by simp) rfl
   rw [l9,decide_eq_true_eq]at kw
   obtain rfl:q=2:=by omega
   clear kq hq kw
   obtain⟨D_,V_,hs⟩:=hs
   go_simp
   refine Calls.mono (pforks (m:=9) hp (HP0.out.new hs.ch) hs.pt (by omega) (by have:=hs.ch.size;have:=HB.out;omega) rfl) ?_
   rintro z w2 ⟨D2,V2,rfl,hp2,hk2,c2⟩
   exact hK.out _ w2 ⟨3,by omega,l4,l9,rfl,l19,l20,⟨D2,V2,hp2,hs.ak.trans hk2 (by decide),chg_then hs.ch c2,(fun _=>(hs.e7 (by omega)).trans (by rw [(hk2 7 (by decide)).1])),(fun _=>(hs.e12 (by omega)).trans (hk2 8 (by decide)).2.symm),(fun _=>rfl),(fun e=>absurd e (by omega)),(fun e=>absurd e (by omega)),blk_keep hs.z c2 (fun f=>f)⟩⟩ trivial
  ·show StepRS _ _ _ _ _ _ _ _
   unfold StepRS
   intro L_ u w_ hj hd K hK
   clear hd
   obtain⟨q,hq,l4,l9,l14,l19,l20,hs⟩:=hj
   clear l4 l9 l14 l19 l20
   clear hs hq
   go_simp
   exact hK.out _ rfl
  ·show StepRS _ _ _ _ _ _ _ _
   unfold StepRS
   intro L_ u w_ hj hd K hK
   have h18:u 18= .pointer (some ⟨a,10,none⟩):=hd.get 15 (by kernel_rfl)
   clear hd
   simp only [h18]at hK
   obtain⟨q,hq,l4,l9,l14,l19,l20,hs⟩:=hj
   clear l4 l9 l14 l19 l20
   clear hs hq
   go_simp
   exact hK.out _ rfl
  ·show StepRS _ _ _ _ _ _ _ _
   unfold StepRS
   intro L_ u w_ hj hd K hK
   have h19:u 19= .pointer (some ⟨a,10,none⟩):=hd.get 16 (by kernel_rfl)
   clear hd
   simp only [h19]at hK
   obtain⟨q,hq,l4,l9,l14,l19,l20,hs⟩:=hj
   clear l4 l9 l14 l19 l20
   clear hs hq
   go_simp
   exact hK.out _ rfl
  ·show StepRS _ _ _ _ _ _ _ _
   unfold StepRS
   intro L_ u w_ hj hd K hK
   have h20:u 20= .pointer (some ⟨a,13,none⟩):=hd.get 17 (by kernel_rfl)
   clear hd
   simp only [h20]at hK
   obtain⟨q,hq,l4,l9,l14,l19,l20,hs⟩:=hj
   clear l4 l9 l14 l19 l20
   obtain⟨D_,V_,hs⟩:=hs
   have hx:=cell_chg HX13.out hs.ch
   clear hs hq
   go_simp
   exact hK.out _ rfl
  ·show StepWS _ _ _ _ _ _ _ _ _
   unfold StepWS
   intro L_ u w_ hj hli hwt hd K hK
   have h21:u 21=ptV (D0 10 0):=hd.get 18 (by kernel_rfl)
   clear hd
   simp only [h21]at hK
   obtain⟨q,hq,l4,l9,l14,l19,l20,hs⟩:=hj
   have kq: ¬3<q:=fun e=>by rw [l19,decide_eq_true e]at hli;cases hli
   have kw:L_ 14=true:=hwt ⟨14,.chain⟩ (by simp) rfl
   rw [l14,decide_eq_true_eq]at kw
   obtain rfl:q=3:=by omega
   clear kq hq kw
   obtain⟨D_,V_,hs⟩:=hs
   go_simp
   refine Calls.mono (pfork (m:=10) hp (HP0.out.new hs.ch) hs.pt (by omega) (by have:=hs.ch.size;have:=HB.out;omega) rfl rfl) ?_
   rintro z w2 ⟨D2,V2,rfl,hp2,hk2,c2⟩
   exact hK.out _ w2 ⟨4,by omega,l4,l9,l14,rfl,l20,⟨D2,V2,hp2,hs.ak.trans hk2 (by decide),chg_then hs.ch c2,(fun _=>(hs.e7 (by omega)).trans (by rw [(hk2 7 (by decide)).1])),(fun _=>(hs.e12 (by omega)).trans (hk2 8 (by decide)).2.symm),(fun _=>(hs.e17 (by omega)).trans (hk2 9 (by decide)).2.symm),(fun _=>rfl),(fun e=>absurd e (by omega)),blk_keep hs.z c2 (fun f=>f)⟩⟩ trivial
  ·show StepWS _ _ _ _ _ _ _ _ _
   unfold StepWS
   intro L_ u w_ hj hli hwt hd K hK
   clear hd
   obtain⟨q,hq,l4,l9,l14,l19,l20,hs⟩:=hj
   have kq: ¬4<q:=fun e=>by rw [l20,decide_eq_true e]at hli;cases hli
   have kw:L_ 19=true:=hwt ⟨19,.data⟩ (by simp) rfl
   rw [l19,decide_eq_true_eq]at kw
   obtain rfl:q=4:=by omega
   clear kq hq kw
   obtain⟨D_,V_,hs⟩:=hs
   have q7:=hs.e7 (by omega)
   have q12:=hs.e12 (by omega)
   have q17:=hs.e17 (by omega)
   have q22:=hs.e22 (by omega)
   obtain⟨a8,c8,f8⟩:=form1 (hs.pt.ls 8 (by decide) rfl)
   obtain⟨a9,c9,f9⟩:=form1 (hs.pt.ls 9 (by decide) rfl)
   have HS:Hid _:=hs
   clear hs
   simp only [f8,f9,ptV]at q7 q12 q17 q22
   simp only [q7,q12,q17,q22]at hK⊢
   go_simp
   refine hK.out _ _ ⟨5,by omega,l4,l9,l14,l19,rfl,⟨D_,V_,HS.out.pt,HS.out.ak,HS.out.ch,(fun _=>HS.out.e7 (by omega)),(fun _=>HS.out.e12 (by omega)),(fun _=>HS.out.e17 (by omega)),(fun _=>HS.out.e22 (by omega)),(fun _=>by simp only [tabC,lenC,f8,f9,ptV];rfl),HS.out.z⟩⟩ trivial
 ·intro u w7 hj hA K hK
  obtain⟨q,hq,l4,l9,l14,l19,l20,hs⟩:=hj
  have hqn:4<q:=of_decide_eq_true (Eq.symm l20)
  clear l4 l9 l14 l19 l20
  obtain rfl:q=5:=by omega
  obtain⟨D_,V_,hs⟩:=hs
  have q9:=hs.e23 (by omega)
  have HT1:Hid _:=there_blk hs.z (o:=0) (n:=4) (by show 0+4≤4;omega)
  have HT2:Hid _:=len_one (m:=7) hs.pt (by omega) (by decide)
  have hch:=chg_cells w0.heap.size (lenC D_ V_ 7).toList 0 w7
  have HPN:Hid _:=hs.pt.off hch (fun z e=>e) hs.z (by decide) (by decide) (by decide)
  have HBN:Hid ((w7.setCells w0.heap.size 0 (lenC D_ V_ 7).toList).heap[w0.heap.size]?=some (.cells (lenC D_ V_ 7) 80 (0,0))):=blk_over hs.z (by rfl)
  have HCN:Hid (Chg (fun _=>False) w0 (w7.setCells w0.heap.size 0 (lenC D_ V_ 7).toList)):=(chg_then HC.out hs.ch).trans hch (fun z e=> .inr (by omega))
  have HAK:Hid _:=hs.ak
  clear hs hch hA hq hqn
  simp only [q9]at hK⊢
  refine wp_store_mid 80 (.tmp 2) (.tmp 23) rfl w0.heap.size 0 (lenC D_ V_ 7) rfl rfl HT1.out infoML HT2.out ?_
  refine hK.out _ _ ?_
  clear hK
  generalize w7.setCells w0.heap.size 0 (lenC D_ V_ 7).toList=WN at*
  go_wp2
  refine bodyPost_ret (results_cell_row rfl _ _ w0.heap.size 80 _ (0,0) _ rfl HBN.out Tryz.underlying80 rfl (by kernel_rfl)) rfl ?_
  exact⟨D_,V_,rfl,HPN.out,HAK.out,HCN.out⟩
def kq_len11 (q:Nat):Nat:=if q=0 then 11 else if q=1 then 12 else if q=2 then 13 else if q=3 then 14 else 15
structure I_len11 (W:World) (B:Nat) (p:Prp) (pr:Nm→Nat→Int) (D1:Dir) (V1:Lst) (D:Dir) (V:Lst) (g:Nat) (q:Nat) (x7 x12 x17 x22 x23:Value) (w:World):Prop where
 pt:Part w B p pr (kq_len11 q) D V
 ak:Alk 11 D1 V1 D V
 ch:Chg (fun _=>False) W w
 e7:0<q→x7=ptV (D 11 0)
 e12:1<q→x12=V 12
 e17:2<q→x17=V 13
 e22:3<q→x22=ptV (D 14 0)
 e23:4<q→x23= .agg (lenC D V 11)
 z:w.heap[g]?=some (.cells (#[.pointer none,.slice none 0 0,.slice none 0 0,.pointer none]) 80 (0,0))
def J_len11 (W:World)(B:Nat)(p:Prp)(pr:Nm→Nat→Int)(D1:Dir)(V1:Lst)(g:Nat)(q:Nat)(x7 x12 x17 x22 x23:Value)(w:World):Prop:= ∃D V,I_len11 W B p pr D1 V1 D V g q x7 x12 x17 x22 x23 w
set_option maxHeartbeats 8000000 in
set_option maxRecDepth 100000 in
theorem lenfork11 (p:Prp)(hp:allow p)(pr:Nm→Nat→Int)(B B0 a:Nat)(D0:Dir)(V0:Lst)(D:Dir)(V:Lst)(w0:World)(h0:Part w0 B0 p pr 18 D0 V0)(h:Part w0 B p pr 11 D V)(hB:B≤w0.heap.size)(c0:w0.cell? ⟨a,14,none⟩=some (ptV (D0 11 0)))(c1:w0.cell? ⟨a,15,none⟩=some (V0 12))(c2:w0.cell? ⟨a,16,none⟩=some (V0 13))(c3:w0.cell? ⟨a,17,none⟩=some (ptV (D0 14 0))):Calls Tryz.prog 130 #[.pointer (some ⟨a,14,none⟩)] w0 fun e w'=> ∃D' V',e= .returned (.agg (lenC D' V' 11))∧Part w' B p pr 15 D' V'∧Alk 11 D V D' V'∧Chg (fun _=>False) w0 w':=by
 have cA:=chg_one w0 (.cells #[.pointer none,.slice none 0 0,.slice none 0 0,.pointer none] 80)
 have HB:Hid (B≤(w0.alloc (.cells #[.pointer none,.slice none 0 0,.slice none 0 0,.pointer none] 80)).heap.size):=Nat.le_trans hB cA.size
 have HZ:Hid ((w0.alloc (.cells #[.pointer none,.slice none 0 0,.slice none 0 0,.pointer none] 80)).heap[w0.heap.size]?=some (.cells #[.pointer none,.slice none 0 0,.slice none 0 0,.pointer none] 80 (0,0))):=heap_alloc_last _ _
 have HPT:Hid (Part (w0.alloc (.cells #[.pointer none,.slice none 0 0,.slice none 0 0,.pointer none] 80)) B p pr 11 D V):=h.new cA
 have HP0:Hid (Part (w0.alloc (.cells #[.pointer none,.slice none 0 0,.slice none 0 0,.pointer none] 80)) B0 p pr 18 D0 V0):=h0.new cA
 have HC:Hid (Chg (fun _=>False) w0 (w0.alloc (.cells #[.pointer none,.slice none 0 0,.slice none 0 0,.pointer none] 80))):=cA
 have HX14:Hid _:=cell_chg c0 cA
 have HX15:Hid _:=cell_chg c1 cA
 have HX16:Hid _:=cell_chg c2 cA
 have HX17:Hid _:=cell_chg c3 cA
 clear h0 h cA hB c0 c1 c2 c3
 go_enter Tryz.func130,Tryz.ntmps130
 go_wp2_with fail
 generalize w0.alloc (.cells #[.pointer none,.slice none 0 0,.slice none 0 0,.pointer none] 80)=W at*
 refine wp_region_setM (mk:=fun u=> #[_,_,_,u 3,u 4,u 5,u 6,u 7,u 8,u 9,u 10,u 11,u 12,u 13,u 14,u 15,u 16,u 17,u 18,u 19,u 20,u 21,u 22,u 23]) (G:=lookG [(3,.pointer (some ⟨a,14,none⟩)),(4,.pointer (some ⟨a,14,none⟩)),(5,.pointer (some ⟨a,14,none⟩)),(6,ptV (D0 11 0)),(8,.pointer (some ⟨a,14,none⟩)),(9,.pointer (some ⟨a,14,none⟩)),(10,.pointer (some ⟨a,15,none⟩)),(11,V0 12),(13,.pointer (some ⟨a,14,none⟩)),(14,.pointer (some ⟨a,14,none⟩)),(15,.pointer (some ⟨a,16,none⟩)),(16,V0 13),(18,.pointer (some ⟨a,14,none⟩)),(19,.pointer (some ⟨a,14,none⟩)),(20,.pointer (some ⟨a,17,none⟩)),(21,ptV (D0 14 0))]) (J:=fun L_ u ww=> ∃q,q≤5∧L_ 4=decide (0<q)∧L_ 9=decide (1<q)∧L_ 14=decide (2<q)∧L_ 19=decide (3<q)∧L_ 20=decide (4<q)∧J_len11 W B p pr D V w0.heap.size q (u 7) (u 12) (u 17) (u 22) (u 23) ww) [4,9,14,19,20] ([]) (fun _=>undef) rfl (by kernel_rfl) 21 _ rfl rfl (by kernel_rfl) (by kernel_rfl) ?_ ?_ ?_ ?_ ?_
 ·repeat (refine⟨fun _ _=>rfl,?_⟩)
  exact trivial
 ·intro L_ L2 u u2 ww h hj
  obtain⟨q,hq,l4,l9,l14,l19,l20,hs⟩:=hj
  have e7_:u 7=u2 7:=(h 4 (by decide)).2
  have e12_:u 12=u2 12:=(h 9 (by decide)).2
  have e17_:u 17=u2 17:=(h 14 (by decide)).2
  have e22_:u 22=u2 22:=(h 19 (by decide)).2
  have e23_:u 23=u2 23:=(h 20 (by decide)).2
  rw [e7_,e12_,e17_,e22_,e23_]at hs
  exact⟨q,hq,((h 4 (by decide)).1).symm.trans l4,((h 9 (by decide)).1).symm.trans l9,((h 14 (by decide)).1).symm.trans l14,((h 19 (by decide)).1).symm.trans l19,((h 20 (by decide)).1).symm.trans l20,hs⟩
 ·exact⟨0,by omega,rfl,rfl,rfl,rfl,rfl,⟨D,V,HPT.out.new (Chg.refl _ W).drew,Alk.refl _ _ _,(Chg.refl _ W).drew,(fun e=>absurd e (by omega)),(fun e=>absurd e (by omega)),(fun e=>absurd e (by omega)),(fun e=>absurd e (by omega)),(fun e=>absurd e (by omega)),HZ.out⟩⟩
 ·refine⟨?_,?_,?_,?_,?_,?_,?_,?_,?_,?_,?_,?_,?_,?_,?_,?_,?_,?_,?_,?_,?_,trivial⟩
  ·show StepRS _ _ _ _ _ _ _ _
   unfold StepRS
   intro L_ u w_ hj hd K hK
   clear hd
   obtain⟨q,hq,l4,l9,l14,l19,l20,hs⟩:=hj
   clear l4 l9 l14 l19 l20
   clear hs hq
   go_simp
   exact hK.out _ rfl
  ·show StepRS _ _ _ _ _ _ _ _
   unfold StepRS
   intro L_ u w_ hj hd K hK
   have h3:u 3= .pointer (some ⟨a,14,none⟩):=hd.get 0 (by kernel_rfl)
   clear hd
   simp only [h3]at hK
   obtain⟨q,hq,l4,l9,l14,l19,l20,hs⟩:=hj
   clear l4 l9 l14 l19 l20
   clear hs hq
   go_simp
   exact hK.out _ rfl
  ·show StepRS _ _ _ _ _ _ _ _
   unfold StepRS
   intro L_ u w_ hj hd K hK
   have h4:u 4= .pointer (some ⟨a,14,none⟩):=hd.get 1 (by kernel_rfl)
   clear hd
   simp only [h4]at hK
   obtain⟨q,hq,l4,l9,l14,l19,l20,hs⟩:=hj
   clear l4 l9 l14 l19 l20
   clear hs hq
   go_simp
   exact hK.out _ rfl
  ·show StepRS _ _ _ _ _ _ _ _
   unfold StepRS
   intro L_ u w_ hj hd K hK
   have h5:u 5= .pointer (some ⟨a,14,none⟩):=hd.get 2 (by kernel_rfl)
   clear hd
   simp only [h5]at hK
   obtain⟨q,hq,l4,l9,l14,l19,l20,hs⟩:=hj
   clear l4 l9 l14 l19 l20
   obtain⟨D_,V_,hs⟩:=hs
   have hx:=cell_chg HX14.out hs.ch
   clear hs hq
   go_simp
   exact hK.out _ rfl
  ·show StepWS _ _ _ _ _ _ _ _ _
   unfold StepWS
   intro L_ u w_ hj hli hwt hd K hK
   have h6:u 6=ptV (D0 11 0):=hd.get 3 (by kernel_rfl)
   clear hd
   simp only [h6]at hK
   obtain⟨q,hq,l4,l9,l14,l19,l20,hs⟩:=hj
   have kq: ¬0<q:=fun e=>by rw [l4,decide_eq_true e]at hli;cases hli
   obtain rfl:q=0:=by omega
   clear kq hq
   obtain⟨D_,V_,hs⟩:=hs
   go_simp
   refine Calls.mono (pfork (m:=11) hp (HP0.out.new hs.ch) hs.pt (by omega) (by have:=hs.ch.size;have:=HB.out;omega) rfl rfl) ?_
   rintro z w2 ⟨D2,V2,rfl,hp2,hk2,c2⟩
   exact hK.out _ w2 ⟨1,by omega,rfl,l9,l14,l19,l20,⟨D2,V2,hp2,hs.ak.trans hk2 (by decide),chg_then hs.ch c2,(fun _=>rfl),(fun e=>absurd e (by omega)),(fun e=>absurd e (by omega)),(fun e=>absurd e (by omega)),(fun e=>absurd e (by omega)),blk_keep hs.z c2 (fun f=>f)⟩⟩ trivial
  ·show StepRS _ _ _ _ _ _ _ _
   unfold StepRS
   intro L_ u w_ hj hd K hK
   clear hd
   obtain⟨q,hq,l4,l9,l14,l19,l20,hs⟩:=hj
   clear l4 l9 l14 l19 l20
   clear hs hq
   go_simp
   exact hK.out _ rfl
  ·show StepRS _ _ _ _ _ _ _ _
   unfold StepRS
   intro L_ u w_ hj hd K hK
   have h8:u 8= .pointer (some ⟨a,14,none⟩):=hd.get 5 (by kernel_rfl)
   clear hd
   simp only [h8]at hK
   obtain⟨q,hq,l4,l9,l14,l19,l20,hs⟩:=hj
   clear l4 l9 l14 l19 l20
   clear hs hq
   go_simp
   exact hK.out _ rfl
  ·show StepRS _ _ _ _ _ _ _ _
   unfold StepRS
   intro L_ u w_ hj hd K hK
   have h9:u 9= .pointer (some ⟨a,14,none⟩):=hd.get 6 (by kernel_rfl)
   clear hd
   simp only [h9]at hK
   obtain⟨q,hq,l4,l9,l14,l19,l20,hs⟩:=hj
   clear l4 l9 l14 l19 l20
   clear hs hq
   go_simp
   exact hK.out _ rfl
  ·show StepRS _ _ _ _ _ _ _ _
   unfold StepRS
   intro L_ u w_ hj hd K hK
   have h10:u 10= .pointer (some ⟨a,15,none⟩):=hd.get 7 (by kernel_rfl)
   clear hd
   simp only [h10]at hK
   obtain⟨q,hq,l4,l9,l14,l19,l20,hs⟩:=hj
   clear l4 l9 l14 l19 l20
   obtain⟨D_,V_,hs⟩:=hs
   have hx:=cell_chg HX15.out hs.ch
   clear hs hq
   go_simp
   exact hK.out _ rfl
  ·show StepWS _ _ _ _ _ _ _ _ _
   unfold StepWS
   intro L_ u w_ hj hli hwt hd K hK
   have h11:u 11=V0 12:=hd.get 8 (by kernel_rfl)
   clear hd
   simp only [h11]at hK
   obtain⟨q,hq,l4,l9,l14,l19,l20,hs⟩:=hj
   have kq: ¬1<q:=fun e=>by rw [l9,decide_eq_true e]at hli;cases hli
   have kw:L_ 4=true:=hwt ⟨4,.chain⟩ (by simp) rfl
   rw [l4,decide_eq_true_eq]at kw
   obtain rfl:q=1:=by omega
   clear kq hq kw
   obtain⟨D_,V_,hs⟩:=hs
   go_simp
   refine Calls.mono (pforks (m:=12) hp (HP0.out.new hs.ch) hs.pt (by omega) (by have:=hs.ch.size;have:=HB.out;omega) rfl) ?_
   rintro z w2 ⟨D2,V2,rfl,hp2,hk2,c2⟩
   exact hK.out _ w2 ⟨2,by omega,l4,rfl,l14,l19,l20,⟨D2,V2,hp2,hs.ak.trans hk2 (by decide),chg_then hs.ch c2,(fun _=>(hs.e7 (by omega)).trans (by rw [(hk2 11 (by decide)).1])),(fun _=>rfl),(fun e=>absurd e (by omega)),(fun e=>absurd e (by omega)),(fun e=>absurd e (by omega)),blk_keep hs.z c2 (fun f=>f)⟩⟩ trivial
  ·show StepRS _ _ _ _ _ _ _ _
   unfold StepRS
   intro L_ u w_ hj hd K hK
   clear hd
   obtain⟨q,hq,l4,l9,l14,l19,l20,hs⟩:=hj
   clear l4 l9 l14 l19 l20
   clear hs hq
   go_simp
   exact hK.out _ rfl
  ·show StepRS _ _ _ _ _ _ _ _
   unfold StepRS
   intro L_ u w_ hj hd K hK
   have h13:u 13= .pointer (some ⟨a,14,none⟩):=hd.get 10 (by kernel_rfl)
   clear hd
   simp only [h13]at hK
   obtain⟨q,hq,l4,l9,l14,l19,l20,hs⟩:=hj
   clear l4 l9 l14 l19 l20
   clear hs hq
   go_simp
   exact hK.out _ rfl
  ·show StepRS _ _ _ _ _ _ _ _
   unfold StepRS
   intro L_ u w_ hj hd K hK
   have h14:u 14= .pointer (some ⟨a,14,none⟩):=hd.get 11 (by kernel_rfl)
   clear hd
   simp only [h14]at hK
   obtain⟨q,hq,l4,l9,l14,l19,l20,hs⟩:=hj
   clear l4 l9 l14 l19 l20
   clear hs hq
   go_simp
   exact hK.out _ rfl
  ·show StepRS _ _ _ _ _ _ _ _
   unfold StepRS
   intro L_ u w_ hj hd K hK
   have h15:u 15= .pointer (some ⟨a,16,none⟩):=hd.get 12 (by kernel_rfl)
   clear hd
   simp only [h15]at hK
   obtain⟨q,hq,l4,l9,l14,l19,l20,hs⟩:=hj
   clear l4 l9 l14 l19 l20
   obtain⟨D_,V_,hs⟩:=hs
   have hx:=cell_chg HX16.out hs.ch
   clear hs hq
   go_simp
   exact hK.out _ rfl
  ·show StepWS _ _ _ _ _ _ _ _ _
   unfold StepWS
   intro L_ u w_ hj hli hwt hd K hK
   have h16:u 16=V0 13:=hd.get 13 (by kernel_rfl)
   clear hd
   simp only [h16]at hK
   obtain⟨q,hq,l4,l9,l14,l19,l20,hs⟩:=hj
   have kq: ¬2<q:=fun e=>by rw [l14,decide_eq_true e]at hli;cases hli
   have kw:L_ 9=true:=hwt ⟨9,.chain⟩ (by simp) rfl
   rw [l9,decide_eq_true_eq]at kw
   obtain rfl:q=2:=by omega
   clear kq hq kw
   obtain⟨D_,V_,hs⟩:=hs
   go_simp
   refine Calls.mono (pforks (m:=13) hp (HP0.out.new hs.ch) hs.pt (by omega) (by have:=hs.ch.size;have:=HB.out;omega) rfl) ?_
   rintro z w2 ⟨D2,V2,rfl,hp2,hk2,c2⟩
   exact hK.out _ w2 ⟨3,by omega,l4,l9,rfl,l19,l20,⟨D2,V2,hp2,hs.ak.trans hk2 (by decide),chg_then hs.ch c2,(fun _=>(hs.e7 (by omega)).trans (by rw [(hk2 11 (by decide)).1])),(fun _=>(hs.e12 (by omega)).trans (hk2 12 (by decide)).2.symm),(fun _=>rfl),(fun e=>absurd e (by omega)),(fun e=>absurd e (by omega)),blk_keep hs.z c2 (fun f=>f)⟩⟩ trivial
  ·show StepRS _ _ _ _ _ _ _ _
   unfold StepRS
   intro L_ u w_ hj hd K hK
   clear hd
   obtain⟨q,hq,l4,l9,l14,l19,l20,hs⟩:=hj
   clear l4 l9 l14 l19 l20
   clear hs hq
   go_simp
   exact hK.out _ rfl
  ·show StepRS _ _ _ _ _ _ _ _
   unfold StepRS
   intro L_ u w_ hj hd K hK
   have h18:u 18= .pointer (some ⟨a,14,none⟩):=hd.get 15 (by kernel_rfl)
   clear hd
   simp only [h18]at hK
   obtain⟨q,hq,l4,l9,l14,l19,l20,hs⟩:=hj
   clear l4 l9 l14 l19 l20
   clear hs hq
   go_simp
   exact hK.out _ rfl
  ·show StepRS _ _ _ _ _ _ _ _
   unfold StepRS
   intro L_ u w_ hj hd K hK
   have h19:u 19= .pointer (some ⟨a,14,none⟩):=hd.get 16 (by kernel_rfl)
   clear hd
   simp only [h19]at hK
   obtain⟨q,hq,l4,l9,l14,l19,l20,hs⟩:=hj
   clear l4 l9 l14 l19 l20
   clear hs hq
   go_simp
   exact hK.out _ rfl
  ·show StepRS _ _ _ _ _ _ _ _
   unfold StepRS
   intro L_ u w_ hj hd K hK
   have h20:u 20= .pointer (some ⟨a,17,none⟩):=hd.get 17 (by kernel_rfl)
   clear hd
   simp only [h20]at hK
   obtain⟨q,hq,l4,l9,l14,l19,l20,hs⟩:=hj
   clear l4 l9 l14 l19 l20
   obtain⟨D_,V_,hs⟩:=hs
   have hx:=cell_chg HX17.out hs.ch
   clear hs hq
   go_simp
   exact hK.out _ rfl
  ·show StepWS _ _ _ _ _ _ _ _ _
   unfold StepWS
   intro L_ u w_ hj hli hwt hd K hK
   have h21:u 21=ptV (D0 14 0):=hd.get 18 (by kernel_rfl)
   clear hd
   simp only [h21]at hK
   obtain⟨q,hq,l4,l9,l14,l19,l20,hs⟩:=hj
   have kq: ¬3<q:=fun e=>by rw [l19,decide_eq_true e]at hli;cases hli
   have kw:L_ 14=true:=hwt ⟨14,.chain⟩ (by simp) rfl
   rw [l14,decide_eq_true_eq]at kw
   obtain rfl:q=3:=by omega
   clear kq hq kw
   obtain⟨D_,V_,hs⟩:=hs
   go_simp
   refine Calls.mono (pfork (m:=14) hp (HP0.out.new hs.ch) hs.pt (by omega) (by have:=hs.ch.size;have:=HB.out;omega) rfl rfl) ?_
   rintro z w2 ⟨D2,V2,rfl,hp2,hk2,c2⟩
   exact hK.out _ w2 ⟨4,by omega,l4,l9,l14,rfl,l20,⟨D2,V2,hp2,hs.ak.trans hk2 (by decide),chg_then hs.ch c2,(fun _=>(hs.e7 (by omega)).trans (by rw [(hk2 11 (by decide)).1])),(fun _=>(hs.e12 (by omega)).trans (hk2 12 (by decide)).2.symm),(fun _=>(hs.e17 (by omega)).trans (hk2 13 (by decide)).2.symm),(fun _=>rfl),(fun e=>absurd e (by omega)),blk_keep hs.z c2 (fun f=>f)⟩⟩ trivial
  ·show StepWS _ _ _ _ _ _ _ _ _
   unfold StepWS
   intro L_ u w_ hj hli hwt hd K hK
   clear hd
   obtain⟨q,hq,l4,l9,l14,l19,l20,hs⟩:=hj
   have kq: ¬4<q:=fun e=>by rw [l20,decide_eq_true e]at hli;cases hli
   have kw:L_ 19=true:=hwt ⟨19,.data⟩ (by simp) rfl
   rw [l19,decide_eq_true_eq]at kw
   obtain rfl:q=4:=by omega
   clear kq hq kw
   obtain⟨D_,V_,hs⟩:=hs
   have q7:=hs.e7 (by omega)
   have q12:=hs.e12 (by omega)
   have q17:=hs.e17 (by omega)
   have q22:=hs.e22 (by omega)
   obtain⟨a12,c12,f12⟩:=form1 (hs.pt.ls 12 (by decide) rfl)
   obtain⟨a13,c13,f13⟩:=form1 (hs.pt.ls 13 (by decide) rfl)
   have HS:Hid _:=hs
   clear hs
   simp only [f12,f13,ptV]at q7 q12 q17 q22
   simp only [q7,q12,q17,q22]at hK⊢
   go_simp
   refine hK.out _ _ ⟨5,by omega,l4,l9,l14,l19,rfl,⟨D_,V_,HS.out.pt,HS.out.ak,HS.out.ch,(fun _=>HS.out.e7 (by omega)),(fun _=>HS.out.e12 (by omega)),(fun _=>HS.out.e17 (by omega)),(fun _=>HS.out.e22 (by omega)),(fun _=>by simp only [tabC,lenC,f12,f13,ptV];rfl),HS.out.z⟩⟩ trivial
 ·intro u w7 hj hA K hK
  obtain⟨q,hq,l4,l9,l14,l19,l20,hs⟩:=hj
  have hqn:4<q:=of_decide_eq_true (Eq.symm l20)
  clear l4 l9 l14 l19 l20
  obtain rfl:q=5:=by omega
  obtain⟨D_,V_,hs⟩:=hs
  have q9:=hs.e23 (by omega)
  have HT1:Hid _:=there_blk hs.z (o:=0) (n:=4) (by show 0+4≤4;omega)
  have HT2:Hid _:=len_one (m:=11) hs.pt (by omega) (by decide)
  have hch:=chg_cells w0.heap.size (lenC D_ V_ 11).toList 0 w7
  have HPN:Hid _:=hs.pt.off hch (fun z e=>e) hs.z (by decide) (by decide) (by decide)
  have HBN:Hid ((w7.setCells w0.heap.size 0 (lenC D_ V_ 11).toList).heap[w0.heap.size]?=some (.cells (lenC D_ V_ 11) 80 (0,0))):=blk_over hs.z (by rfl)
  have HCN:Hid (Chg (fun _=>False) w0 (w7.setCells w0.heap.size 0 (lenC D_ V_ 11).toList)):=(chg_then HC.out hs.ch).trans hch (fun z e=> .inr (by omega))
  have HAK:Hid _:=hs.ak
  clear hs hch hA hq hqn
  simp only [q9]at hK⊢
  refine wp_store_mid 80 (.tmp 2) (.tmp 23) rfl w0.heap.size 0 (lenC D_ V_ 11) rfl rfl HT1.out infoML HT2.out ?_
  refine hK.out _ _ ?_
  clear hK
  generalize w7.setCells w0.heap.size 0 (lenC D_ V_ 11).toList=WN at*
  go_wp2
  refine bodyPost_ret (results_cell_row rfl _ _ w0.heap.size 80 _ (0,0) _ rfl HBN.out Tryz.underlying80 rfl (by kernel_rfl)) rfl ?_
  exact⟨D_,V_,rfl,HPN.out,HAK.out,HCN.out⟩
def kq_tab (q:Nat):Nat:=if q=0 then 0 else if q=1 then 1 else if q=2 then 2 else if q=3 then 3 else if q=4 then 4 else if q=5 then 5 else if q=6 then 6 else if q=7 then 7 else if q=8 then 11 else if q=9 then 15 else if q=10 then 16 else if q=11 then 17 else 18
structure I_tab (W:World) (B:Nat) (p:Prp) (pr:Nm→Nat→Int) (D1:Dir) (V1:Lst) (D:Dir) (V:Lst) (g:Nat) (q:Nat) (x11 x16 x21 x26 x31 x36 x41 x45 x49 x54 x59 x64 x65:Value) (w:World):Prop where
 pt:Part w B p pr (kq_tab q) D V
 ak:Alk 0 D1 V1 D V
 ch:Chg (fun _=>False) W w
 e11:0<q→x11=V 0
 e16:1<q→x16=V 1
 e21:2<q→x21=ptV (D 2 0)
 e26:3<q→x26=ptV (D 3 0)
 e31:4<q→x31=ptV (D 4 0)
 e36:5<q→x36=ptV (D 5 0)
 e41:6<q→x41=V 6
 e45:7<q→x45= .agg (lenC D V 7)
 e49:8<q→x49= .agg (lenC D V 11)
 e54:9<q→x54=V 15
 e59:10<q→x59=V 16
 e64:11<q→x64=ptV (D 17 0)
 e65:12<q→x65= .agg (tabC p D V)
 z:w.heap[g]?=some (.cells (Z21) 82 (0,0))
def J_tab (W:World)(B:Nat)(p:Prp)(pr:Nm→Nat→Int)(D1:Dir)(V1:Lst)(g:Nat)(q:Nat)(x11 x16 x21 x26 x31 x36 x41 x45 x49 x54 x59 x64 x65:Value)(w:World):Prop:= ∃D V,I_tab W B p pr D1 V1 D V g q x11 x16 x21 x26 x31 x36 x41 x45 x49 x54 x59 x64 x65 w
theorem tab_cell {w:World}{a:Nat}{C:List Value}(h:w.rangeAt a 0 C)(i:Nat)(v:Value)(hi:C[i]?=some v):w.cell? ⟨a,i,none⟩=some v:=by
 have:=h i v hi
 rw [Nat.zero_add]at this
 exact this
set_option maxHeartbeats 8000000 in
set_option maxRecDepth 100000 in
theorem tabfork (p:Prp)(hp:allow p)(pr:Nm→Nat→Int)(B B0 a:Nat)(D0:Dir)(V0:Lst)(w0:World)(h0:Part w0 B0 p pr 18 D0 V0)(hB:B≤w0.heap.size)(hr:w0.rangeAt a 0 (tabC p D0 V0).toList):Calls Tryz.prog 82 #[.pointer (some ⟨a,0,none⟩)] w0 fun e w'=> ∃D' V',e= .returned (.agg (tabC p D' V'))∧Part w' B p pr 18 D' V'∧Chg (fun _=>False) w0 w':=by
 have cA:=chg_one w0 (.cells Z21 82)
 obtain⟨D,hD⟩: ∃D:Dir,D=D0:=⟨_,rfl⟩
 obtain⟨V,hV⟩: ∃V:Lst,V=V0:=⟨_,rfl⟩
 have HDV:Hid (D=D0∧V=V0):=⟨hD,hV⟩
 clear hD hV
 have HB:Hid (B≤(w0.alloc (.cells Z21 82)).heap.size):=Nat.le_trans hB cA.size
 have HZ:Hid ((w0.alloc (.cells Z21 82)).heap[w0.heap.size]?=some (.cells Z21 82 (0,0))):=heap_alloc_last _ _
 have HPT:Hid (Part (w0.alloc (.cells Z21 82)) B p pr 0 D V):=Part.none _ _ _ _ _ _
 have HP0:Hid (Part (w0.alloc (.cells Z21 82)) B0 p pr 18 D0 V0):=h0.new cA
 have HC:Hid (Chg (fun _=>False) w0 (w0.alloc (.cells Z21 82))):=cA
 have HX0:Hid ((w0.alloc (.cells Z21 82)).cell? ⟨a,0,none⟩=some (.int .i64 p.lc)):=cell_chg (tab_cell hr 0 _ rfl) cA
 have HX1:Hid ((w0.alloc (.cells Z21 82)).cell? ⟨a,1,none⟩=some (.int .i64 p.lp)):=cell_chg (tab_cell hr 1 _ rfl) cA
 have HX2:Hid ((w0.alloc (.cells Z21 82)).cell? ⟨a,2,none⟩=some (.int .i64 p.pb)):=cell_chg (tab_cell hr 2 _ rfl) cA
 have HX3:Hid ((w0.alloc (.cells Z21 82)).cell? ⟨a,3,none⟩=some (V0 0)):=cell_chg (tab_cell hr 3 _ rfl) cA
 have HX4:Hid ((w0.alloc (.cells Z21 82)).cell? ⟨a,4,none⟩=some (V0 1)):=cell_chg (tab_cell hr 4 _ rfl) cA
 have HX5:Hid ((w0.alloc (.cells Z21 82)).cell? ⟨a,5,none⟩=some (ptV (D0 2 0))):=cell_chg (tab_cell hr 5 _ rfl) cA
 have HX6:Hid ((w0.alloc (.cells Z21 82)).cell? ⟨a,6,none⟩=some (ptV (D0 3 0))):=cell_chg (tab_cell hr 6 _ rfl) cA
 have HX7:Hid ((w0.alloc (.cells Z21 82)).cell? ⟨a,7,none⟩=some (ptV (D0 4 0))):=cell_chg (tab_cell hr 7 _ rfl) cA
 have HX8:Hid ((w0.alloc (.cells Z21 82)).cell? ⟨a,8,none⟩=some (ptV (D0 5 0))):=cell_chg (tab_cell hr 8 _ rfl) cA
 have HX9:Hid ((w0.alloc (.cells Z21 82)).cell? ⟨a,9,none⟩=some (V0 6)):=cell_chg (tab_cell hr 9 _ rfl) cA
 have HX10:Hid ((w0.alloc (.cells Z21 82)).cell? ⟨a,10,none⟩=some (ptV (D0 7 0))):=cell_chg (tab_cell hr 10 _ rfl) cA
 have HX11:Hid ((w0.alloc (.cells Z21 82)).cell? ⟨a,11,none⟩=some (V0 8)):=cell_chg (tab_cell hr 11 _ rfl) cA
 have HX12:Hid ((w0.alloc (.cells Z21 82)).cell? ⟨a,12,none⟩=some (V0 9)):=cell_chg (tab_cell hr 12 _ rfl) cA
 have HX13:Hid ((w0.alloc (.cells Z21 82)).cell? ⟨a,13,none⟩=some (ptV (D0 10 0))):=cell_chg (tab_cell hr 13 _ rfl) cA
 have HX14:Hid ((w0.alloc (.cells Z21 82)).cell? ⟨a,14,none⟩=some (ptV (D0 11 0))):=cell_chg (tab_cell hr 14 _ rfl) cA
 have HX15:Hid ((w0.alloc (.cells Z21 82)).cell? ⟨a,15,none⟩=some (V0 12)):=cell_chg (tab_cell hr 15 _ rfl) cA
 have HX16:Hid ((w0.alloc (.cells Z21 82)).cell? ⟨a,16,none⟩=some (V0 13)):=cell_chg (tab_cell hr 16 _ rfl) cA
 have HX17:Hid ((w0.alloc (.cells Z21 82)).cell? ⟨a,17,none⟩=some (ptV (D0 14 0))):=cell_chg (tab_cell hr 17 _ rfl) cA
 have HX18:Hid ((w0.alloc (.cells Z21 82)).cell? ⟨a,18,none⟩=some (V0 15)):=cell_chg (tab_cell hr 18 _ rfl) cA
 have HX19:Hid ((w0.alloc (.cells Z21 82)).cell? ⟨a,19,none⟩=some (V0 16)):=cell_chg (tab_cell hr 19 _ rfl) cA
 have HX20:Hid ((w0.alloc (.cells Z21 82)).cell? ⟨a,20,none⟩=some (ptV (D0 17 0))):=cell_chg (tab_cell hr 20 _ rfl) cA
 unfold Z21 at HB HZ HPT HP0 HC HX0 HX1 HX2 HX3 HX4 HX5 HX6 HX7 HX8 HX9 HX10 HX11 HX12 HX13 HX14 HX15 HX16 HX17 HX18 HX19 HX20
 clear h0 cA hB hr
 go_enter Tryz.func82,Tryz.ntmps82
 go_wp2_with fail
 generalize w0.alloc (.cells #[.int .i64 0,.int .i64 0,.int .i64 0,.slice none 0 0,.slice none 0 0,.pointer none,.pointer none,.pointer none,.pointer none,.slice none 0 0,.pointer none,.slice none 0 0,.slice none 0 0,.pointer none,.pointer none,.slice none 0 0,.slice none 0 0,.pointer none,.slice none 0 0,.slice none 0 0,.pointer none] 82)=W at*
 change Hid (W.heap[w0.heap.size]?=some (.cells Z21 82 (0,0)))at HZ
 refine wp_region_setM (mk:=fun u=> #[_,_,_,u 3,u 4,u 5,u 6,u 7,u 8,u 9,u 10,u 11,u 12,u 13,u 14,u 15,u 16,u 17,u 18,u 19,u 20,u 21,u 22,u 23,u 24,u 25,u 26,u 27,u 28,u 29,u 30,u 31,u 32,u 33,u 34,u 35,u 36,u 37,u 38,u 39,u 40,u 41,u 42,u 43,u 44,u 45,u 46,u 47,u 48,u 49,u 50,u 51,u 52,u 53,u 54,u 55,u 56,u 57,u 58,u 59,u 60,u 61,u 62,u 63,u 64,u 65]) (G:=lookG [(3,.pointer (some ⟨a,0,none⟩)),(4,.pointer (some ⟨a,0,none⟩)),(5,.pointer (some ⟨a,0,none⟩)),(6,.agg #[.int .i64 p.lc,.int .i64 p.lp,.int .i64 p.pb]),(7,.pointer (some ⟨a,0,none⟩)),(8,.pointer (some ⟨a,0,none⟩)),(9,.pointer (some ⟨a,3,none⟩)),(10,V0 0),(12,.pointer (some ⟨a,0,none⟩)),(13,.pointer (some ⟨a,0,none⟩)),(14,.pointer (some ⟨a,4,none⟩)),(15,V0 1),(17,.pointer (some ⟨a,0,none⟩)),(18,.pointer (some ⟨a,0,none⟩)),(19,.pointer (some ⟨a,5,none⟩)),(20,ptV (D0 2 0)),(22,.pointer (some ⟨a,0,none⟩)),(23,.pointer (some ⟨a,0,none⟩)),(24,.pointer (some ⟨a,6,none⟩)),(25,ptV (D0 3 0)),(27,.pointer (some ⟨a,0,none⟩)),(28,.pointer (some ⟨a,0,none⟩)),(29,.pointer (some ⟨a,7,none⟩)),(30,ptV (D0 4 0)),(32,.pointer (some ⟨a,0,none⟩)),(33,.pointer (some ⟨a,0,none⟩)),(34,.pointer (some ⟨a,8,none⟩)),(35,ptV (D0 5 0)),(37,.pointer (some ⟨a,0,none⟩)),(38,.pointer (some ⟨a,0,none⟩)),(39,.pointer (some ⟨a,9,none⟩)),(40,V0 6),(42,.pointer (some ⟨a,0,none⟩)),(43,.pointer (some ⟨a,0,none⟩)),(44,.pointer (some ⟨a,10,none⟩)),(46,.pointer (some ⟨a,0,none⟩)),(47,.pointer (some ⟨a,0,none⟩)),(48,.pointer (some ⟨a,14,none⟩)),(50,.pointer (some ⟨a,0,none⟩)),(51,.pointer (some ⟨a,0,none⟩)),(52,.pointer (some ⟨a,18,none⟩)),(53,V0 15),(55,.pointer (some ⟨a,0,none⟩)),(56,.pointer (some ⟨a,0,none⟩)),(57,.pointer (some ⟨a,19,none⟩)),(58,V0 16),(60,.pointer (some ⟨a,0,none⟩)),(61,.pointer (some ⟨a,0,none⟩)),(62,.pointer (some ⟨a,20,none⟩)),(63,ptV (D0 17 0))]) (J:=fun L_ u ww=> ∃q,q≤13∧L_ 8=decide (0<q)∧L_ 13=decide (1<q)∧L_ 18=decide (2<q)∧L_ 23=decide (3<q)∧L_ 28=decide (4<q)∧L_ 33=decide (5<q)∧L_ 38=decide (6<q)∧L_ 42=decide (7<q)∧L_ 46=decide (8<q)∧L_ 51=decide (9<q)∧L_ 56=decide (10<q)∧L_ 61=decide (11<q)∧L_ 62=decide (12<q)∧J_tab W B p pr D V w0.heap.size q (u 11) (u 16) (u 21) (u 26) (u 31) (u 36) (u 41) (u 45) (u 49) (u 54) (u 59) (u 64) (u 65) ww) [8,13,18,23,28,33,38,42,46,51,56,61,62] ([]) (fun _=>undef) rfl (by kernel_rfl) 63 _ rfl rfl (by kernel_rfl) (by kernel_rfl) ?_ ?_ ?_ ?_ ?_
 ·repeat (refine⟨fun _ _=>rfl,?_⟩)
  exact trivial
 ·intro L_ L2 u u2 ww h hj
  obtain⟨q,hq,l8,l13,l18,l23,l28,l33,l38,l42,l46,l51,l56,l61,l62,hs⟩:=hj
  have e11_:u 11=u2 11:=(h 8 (by decide)).2
  have e16_:u 16=u2 16:=(h 13 (by decide)).2
  have e21_:u 21=u2 21:=(h 18 (by decide)).2
  have e26_:u 26=u2 26:=(h 23 (by decide)).2
  have e31_:u 31=u2 31:=(h 28 (by decide)).2
  have e36_:u 36=u2 36:=(h 33 (by decide)).2
  have e41_:u 41=u2 41:=(h 38 (by decide)).2
  have e45_:u 45=u2 45:=(h 42 (by decide)).2
  have e49_:u 49=u2 49:=(h 46 (by decide)).2
  have e54_:u 54=u2 54:=(h 51 (by decide)).2
  have e59_:u 59=u2 59:=(h 56 (by decide)).2
  have e64_:u 64=u2 64:=(h 61 (by decide)).2
  have e65_:u 65=u2 65:=(h 62 (by decide)).2
  rw [e11_,e16_,e21_,e26_,e31_,e36_,e41_,e45_,e49_,e54_,e59_,e64_,e65_]at hs
  exact⟨q,hq,((h 8 (by decide)).1).symm.trans l8,((h 13 (by decide)).1).symm.trans l13,((h 18 (by decide)).1).symm.trans l18,((h 23 (by decide)).1).symm.trans l23,((h 28 (by decide)).1).symm.trans l28,((h 33 (by decide)).1).symm.trans l33,((h 38 (by decide)).1).symm.trans l38,((h 42 (by decide)).1).symm.trans l42,((h 46 (by decide)).1).symm.trans l46,((h 51 (by decide)).1).symm.trans l51,((h 56 (by decide)).1).symm.trans l56,((h 61 (by decide)).1).symm.trans l61,((h 62 (by decide)).1).symm.trans l62,hs⟩
 ·exact⟨0,by omega,rfl,rfl,rfl,rfl,rfl,rfl,rfl,rfl,rfl,rfl,rfl,rfl,rfl,⟨D,V,HPT.out.new (Chg.refl _ W).drew,Alk.refl _ _ _,(Chg.refl _ W).drew,(fun e=>absurd e (by omega)),(fun e=>absurd e (by omega)),(fun e=>absurd e (by omega)),(fun e=>absurd e (by omega)),(fun e=>absurd e (by omega)),(fun e=>absurd e (by omega)),(fun e=>absurd e (by omega)),(fun e=>absurd e (by omega)),(fun e=>absurd e (by omega)),(fun e=>absurd e (by omega)),(fun e=>absurd e (by omega)),(fun e=>absurd e (by omega)),(fun e=>absurd e (by omega)),HZ.out⟩⟩
 ·refine⟨?_,?_,?_,?_,?_,?_,?_,?_,?_,?_,?_,?_,?_,?_,?_,?_,?_,?_,?_,?_,?_,?_,?_,?_,?_,?_,?_,?_,?_,?_,?_,?_,?_,?_,?_,?_,?_,?_,?_,?_,?_,?_,?_,?_,?_,?_,?_,?_,?_,?_,?_,?_,?_,?_,?_,?_,?_,?_,?_,?_,?_,?_,?_,trivial⟩
  ·show StepRS _ _ _ _ _ _ _ _
   unfold StepRS
   intro L_ u w_ hj hd K hK
   clear hd
   obtain⟨q,hq,l8,l13,l18,l23,l28,l33,l38,l42,l46,l51,l56,l61,l62,hs⟩:=hj
   clear l8 l13 l18 l23 l28 l33 l38 l42 l46 l51 l56 l61 l62
   clear hs hq
   go_simp
   exact hK.out _ rfl
  ·show StepRS _ _ _ _ _ _ _ _
   unfold StepRS
   intro L_ u w_ hj hd K hK
   have h3:u 3= .pointer (some ⟨a,0,none⟩):=hd.get 0 (by kernel_rfl)
   clear hd
   simp only [h3]at hK
   obtain⟨q,hq,l8,l13,l18,l23,l28,l33,l38,l42,l46,l51,l56,l61,l62,hs⟩:=hj
   clear l8 l13 l18 l23 l28 l33 l38 l42 l46 l51 l56 l61 l62
   clear hs hq
   go_simp
   exact hK.out _ rfl
  ·show StepRS _ _ _ _ _ _ _ _
   unfold StepRS
   intro L_ u w_ hj hd K hK
   have h4:u 4= .pointer (some ⟨a,0,none⟩):=hd.get 1 (by kernel_rfl)
   clear hd
   simp only [h4]at hK
   obtain⟨q,hq,l8,l13,l18,l23,l28,l33,l38,l42,l46,l51,l56,l61,l62,hs⟩:=hj
   clear l8 l13 l18 l23 l28 l33 l38 l42 l46 l51 l56 l61 l62
   clear hs hq
   go_simp
   exact hK.out _ rfl
  ·show StepRS _ _ _ _ _ _ _ _
   unfold StepRS
   intro L_ u w_ hj hd K hK
   have h5:u 5= .pointer (some ⟨a,0,none⟩):=hd.get 2 (by kernel_rfl)
   clear hd
   simp only [h5]at hK
   obtain⟨q,hq,l8,l13,l18,l23,l28,l33,l38,l42,l46,l51,l56,l61,l62,hs⟩:=hj
   clear l8 l13 l18 l23 l28 l33 l38 l42 l46 l51 l56 l61 l62
   obtain⟨D_,V_,hs⟩:=hs
   have x0:=cell_chg HX0.out hs.ch
   have x1:=cell_chg HX1.out hs.ch
   have x2:=cell_chg HX2.out hs.ch
   clear hs hq
   go_simp
   exact hK.out _ rfl
  ·show StepRS _ _ _ _ _ _ _ _
   unfold StepRS
   intro L_ u w_ hj hd K hK
   clear hd
   obtain⟨q,hq,l8,l13,l18,l23,l28,l33,l38,l42,l46,l51,l56,l61,l62,hs⟩:=hj
   clear l8 l13 l18 l23 l28 l33 l38 l42 l46 l51 l56 l61 l62
   clear hs hq
   go_simp
   exact hK.out _ rfl
  ·show StepRS _ _ _ _ _ _ _ _
   unfold StepRS
   intro L_ u w_ hj hd K hK
   have h7:u 7= .pointer (some ⟨a,0,none⟩):=hd.get 4 (by kernel_rfl)
   clear hd
   simp only [h7]at hK
   obtain⟨q,hq,l8,l13,l18,l23,l28,l33,l38,l42,l46,l51,l56,l61,l62,hs⟩:=hj
   clear l8 l13 l18 l23 l28 l33 l38 l42 l46 l51 l56 l61 l62
   clear hs hq
   go_simp
   exact hK.out _ rfl
  ·show StepRS _ _ _ _ _ _ _ _
   unfold StepRS
   intro L_ u w_ hj hd K hK
   have h8:u 8= .pointer (some ⟨a,0,none⟩):=hd.get 5 (by kernel_rfl)
   clear hd
   simp only [h8]at hK
   obtain⟨q,hq,l8,l13,l18,l23,l28,l33,l38,l42,l46,l51,l56,l61,l62,hs⟩:=hj
   clear l8 l13 l18 l23 l28 l33 l38 l42 l46 l51 l56 l61 l62
   clear hs hq
   go_simp
   exact hK.out _ rfl
  ·show StepRS _ _ _ _ _ _ _ _
   unfold StepRS
   intro L_ u w_ hj hd K hK
   have h9:u 9= .pointer (some ⟨a,3,none⟩):=hd.get 6 (by kernel_rfl)
   clear hd
   simp only [h9]at hK
   obtain⟨q,hq,l8,l13,l18,l23,l28,l33,l38,l42,l46,l51,l56,l61,l62,hs⟩:=hj
   clear l8 l13 l18 l23 l28 l33 l38 l42 l46 l51 l56 l61 l62
   obtain⟨D_,V_,hs⟩:=hs
   have hx:=cell_chg HX3.out hs.ch
   clear hs hq
   go_simp
   exact hK.out _ rfl
  ·show StepWS _ _ _ _ _ _ _ _ _
   unfold StepWS
   intro L_ u w_ hj hli hwt hd K hK
   have h10:u 10=V0 0:=hd.get 7 (by kernel_rfl)
   clear hd
   simp only [h10]at hK
   obtain⟨q,hq,l8,l13,l18,l23,l28,l33,l38,l42,l46,l51,l56,l61,l62,hs⟩:=hj
   have kq: ¬0<q:=fun e=>by rw [l8,decide_eq_true e]at hli;cases hli
   obtain rfl:q=0:=by omega
   clear kq hq
   obtain⟨D_,V_,hs⟩:=hs
   go_simp
   refine Calls.mono (pforks (m:=0) hp (HP0.out.new hs.ch) hs.pt (by omega) (by have:=hs.ch.size;have:=HB.out;omega) rfl) ?_
   rintro z w2 ⟨D2,V2,rfl,hp2,hk2,c2⟩
   exact hK.out _ w2 ⟨1,by omega,rfl,l13,l18,l23,l28,l33,l38,l42,l46,l51,l56,l61,l62,⟨D2,V2,hp2,hs.ak.trans hk2 (by decide),chg_then hs.ch c2,(fun _=>rfl),(fun e=>absurd e (by omega)),(fun e=>absurd e (by omega)),(fun e=>absurd e (by omega)),(fun e=>absurd e (by omega)),(fun e=>absurd e (by omega)),(fun e=>absurd e (by omega)),(fun e=>absurd e (by omega)),(fun e=>absurd e (by omega)),(fun e=>absurd e (by omega)),(fun e=>absurd e (by omega)),(fun e=>absurd e (by omega)),(fun e=>absurd e (by omega)),blk_keep hs.z c2 (fun f=>f)⟩⟩ trivial
  ·show StepRS _ _ _ _ _ _ _ _
   unfold StepRS
   intro L_ u w_ hj hd K hK
   clear hd
   obtain⟨q,hq,l8,l13,l18,l23,l28,l33,l38,l42,l46,l51,l56,l61,l62,hs⟩:=hj
   clear l8 l13 l18 l23 l28 l33 l38 l42 l46 l51 l56 l61 l62
   clear hs hq
   go_simp
   exact hK.out _ rfl
  ·show StepRS _ _ _ _ _ _ _ _
   unfold StepRS
   intro L_ u w_ hj hd K hK
   have h12:u 12= .pointer (some ⟨a,0,none⟩):=hd.get 9 (by kernel_rfl)
   clear hd
   simp only [h12]at hK
   obtain⟨q,hq,l8,l13,l18,l23,l28,l33,l38,l42,l46,l51,l56,l61,l62,hs⟩:=hj
   clear l8 l13 l18 l23 l28 l33 l38 l42 l46 l51 l56 l61 l62
   clear hs hq
   go_simp
   exact hK.out _ rfl
  ·show StepRS _ _ _ _ _ _ _ _
   unfold StepRS
   intro L_ u w_ hj hd K hK
   have h13:u 13= .pointer (some ⟨a,0,none⟩):=hd.get 10 (by kernel_rfl)
   clear hd
   simp only [h13]at hK
   obtain⟨q,hq,l8,l13,l18,l23,l28,l33,l38,l42,l46,l51,l56,l61,l62,hs⟩:=hj
   clear l8 l13 l18 l23 l28 l33 l38 l42 l46 l51 l56 l61 l62
   clear hs hq
   go_simp
   exact hK.out _ rfl
  ·show StepRS _ _ _ _ _ _ _ _
   unfold StepRS
   intro L_ u w_ hj hd K hK
   have h14:u 14= .pointer (some ⟨a,4,none⟩):=hd.get 11 (by kernel_rfl)
   clear hd
   simp only [h14]at hK
   obtain⟨q,hq,l8,l13,l18,l23,l28,l33,l38,l42,l46,l51,l56,l61,l62,hs⟩:=hj
   clear l8 l13 l18 l23 l28 l33 l38 l42 l46 l51 l56 l61 l62
   obtain⟨D_,V_,hs⟩:=hs
   have hx:=cell_chg HX4.out hs.ch
   clear hs hq
   go_simp
   exact hK.out _ rfl
  ·show StepWS _ _ _ _ _ _ _ _ _
   unfold StepWS
   intro L_ u w_ hj hli hwt hd K hK
   have h15:u 15=V0 1:=hd.get 12 (by kernel_rfl)
   clear hd
   simp only [h15]at hK
   obtain⟨q,hq,l8,l13,l18,l23,l28,l33,l38,l42,l46,l51,l56,l61,l62,hs⟩:=hj
   have kq: ¬1<q:=fun e=>by rw [l13,decide_eq_true e]at hli;cases hli
   have kw:L_ 8=true:=hwt ⟨8,.chain⟩ (by simp) rfl
   rw [l8,decide_eq_true_eq]at kw
   obtain rfl:q=1:=by omega
   clear kq hq kw
   obtain⟨D_,V_,hs⟩:=hs
   go_simp
   refine Calls.mono (pforks (m:=1) hp (HP0.out.new hs.ch) hs.pt (by omega) (by have:=hs.ch.size;have:=HB.out;omega) rfl) ?_
   rintro z w2 ⟨D2,V2,rfl,hp2,hk2,c2⟩
   exact hK.out _ w2 ⟨2,by omega,l8,rfl,l18,l23,l28,l33,l38,l42,l46,l51,l56,l61,l62,⟨D2,V2,hp2,hs.ak.trans hk2 (by decide),chg_then hs.ch c2,(fun _=>(hs.e11 (by omega)).trans (hk2 0 (by decide)).2.symm),(fun _=>rfl),(fun e=>absurd e (by omega)),(fun e=>absurd e (by omega)),(fun e=>absurd e (by omega)),(fun e=>absurd e (by omega)),(fun e=>absurd e (by omega)),(fun e=>absurd e (by omega)),(fun e=>absurd e (by omega)),(fun e=>absurd e (by omega)),(fun e=>absurd e (by omega)),(fun e=>absurd e (by omega)),(fun e=>absurd e (by omega)),blk_keep hs.z c2 (fun f=>f)⟩⟩ trivial
  ·show StepRS _ _ _ _ _ _ _ _
   unfold StepRS
   intro L_ u w_ hj hd K hK
   clear hd
   obtain⟨q,hq,l8,l13,l18,l23,l28,l33,l38,l42,l46,l51,l56,l61,l62,hs⟩:=hj
   clear l8 l13 l18 l23 l28 l33 l38 l42 l46 l51 l56 l61 l62
   clear hs hq
   go_simp
   exact hK.out _ rfl
  ·show StepRS _ _ _ _ _ _ _ _
   unfold StepRS
   intro L_ u w_ hj hd K hK
   have h17:u 17= .pointer (some ⟨a,0,none⟩):=hd.get 14 (by kernel_rfl)
   clear hd
   simp only [h17]at hK
   obtain⟨q,hq,l8,l13,l18,l23,l28,l33,l38,l42,l46,l51,l56,l61,l62,hs⟩:=hj
   clear l8 l13 l18 l23 l28 l33 l38 l42 l46 l51 l56 l61 l62
   clear hs hq
   go_simp
   exact hK.out _ rfl
  ·show StepRS _ _ _ _ _ _ _ _
   unfold StepRS
   intro L_ u w_ hj hd K hK
   have h18:u 18= .pointer (some ⟨a,0,none⟩):=hd.get 15 (by kernel_rfl)
   clear hd
   simp only [h18]at hK
   obtain⟨q,hq,l8,l13,l18,l23,l28,l33,l38,l42,l46,l51,l56,l61,l62,hs⟩:=hj
   clear l8 l13 l18 l23 l28 l33 l38 l42 l46 l51 l56 l61 l62
   clear hs hq
   go_simp
   exact hK.out _ rfl
  ·show StepRS _ _ _ _ _ _ _ _
   unfold StepRS
   intro L_ u w_ hj hd K hK
   have h19:u 19= .pointer (some ⟨a,5,none⟩):=hd.get 16 (by kernel_rfl)
   clear hd
   simp only [h19]at hK
   obtain⟨q,hq,l8,l13,l18,l23,l28,l33,l38,l42,l46,l51,l56,l61,l62,hs⟩:=hj
   clear l8 l13 l18 l23 l28 l33 l38 l42 l46 l51 l56 l61 l62
   obtain⟨D_,V_,hs⟩:=hs
   have hx:=cell_chg HX5.out hs.ch
   clear hs hq
   go_simp
   exact hK.out _ rfl
  ·show StepWS _ _ _ _ _ _ _ _ _
   unfold StepWS
   intro L_ u w_ hj hli hwt hd K hK
   have h20:u 20=ptV (D0 2 0):=hd.get 17 (by kernel_rfl)
   clear hd
   simp only [h20]at hK
   obtain⟨q,hq,l8,l13,l18,l23,l28,l33,l38,l42,l46,l51,l56,l61,l62,hs⟩:=hj
   have kq: ¬2<q:=fun e=>by rw [l18,decide_eq_true e]at hli;cases hli
   have kw:L_ 13=true:=hwt ⟨13,.chain⟩ (by simp) rfl
   rw [l13,decide_eq_true_eq]at kw
   obtain rfl:q=2:=by omega
   clear kq hq kw
   obtain⟨D_,V_,hs⟩:=hs
   go_simp
   refine Calls.mono (pfork (m:=2) hp (HP0.out.new hs.ch) hs.pt (by omega) (by have:=hs.ch.size;have:=HB.out;omega) rfl rfl) ?_
   rintro z w2 ⟨D2,V2,rfl,hp2,hk2,c2⟩
   exact hK.out _ w2 ⟨3,by omega,l8,l13,rfl,l23,l28,l33,l38,l42,l46,l51,l56,l61,l62,⟨D2,V2,hp2,hs.ak.trans hk2 (by decide),chg_then hs.ch c2,(fun _=>(hs.e11 (by omega)).trans (hk2 0 (by decide)).2.symm),(fun _=>(hs.e16 (by omega)).trans (hk2 1 (by decide)).2.symm),(fun _=>rfl),(fun e=>absurd e (by omega)),(fun e=>absurd e (by omega)),(fun e=>absurd e (by omega)),(fun e=>absurd e (by omega)),(fun e=>absurd e (by omega)),(fun e=>absurd e (by omega)),(fun e=>absurd e (by omega)),(fun e=>absurd e (by omega)),(fun e=>absurd e (by omega)),(fun e=>absurd e (by omega)),blk_keep hs.z c2 (fun f=>f)⟩⟩ trivial
  ·show StepRS _ _ _ _ _ _ _ _
   unfold StepRS
   intro L_ u w_ hj hd K hK
   clear hd
   obtain⟨q,hq,l8,l13,l18,l23,l28,l33,l38,l42,l46,l51,l56,l61,l62,hs⟩:=hj
   clear l8 l13 l18 l23 l28 l33 l38 l42 l46 l51 l56 l61 l62
   clear hs hq
   go_simp
   exact hK.out _ rfl
  ·show StepRS _ _ _ _ _ _ _ _
   unfold StepRS
   intro L_ u w_ hj hd K hK
   have h22:u 22= .pointer (some ⟨a,0,none⟩):=hd.get 19 (by kernel_rfl)
   clear hd
   simp only [h22]at hK
   obtain⟨q,hq,l8,l13,l18,l23,l28,l33,l38,l42,l46,l51,l56,l61,l62,hs⟩:=hj
   clear l8 l13 l18 l23 l28 l33 l38 l42 l46 l51 l56 l61 l62
   clear hs hq
   go_simp
   exact hK.out _ rfl
  ·show StepRS _ _ _ _ _ _ _ _
   unfold StepRS
   intro L_ u w_ hj hd K hK
   have h23:u 23= .pointer (some ⟨a,0,none⟩):=hd.get 20 (by kernel_rfl)
   clear hd
   simp only [h23]at hK
   obtain⟨q,hq,l8,l13,l18,l23,l28,l33,l38,l42,l46,l51,l56,l61,l62,hs⟩:=hj
   clear l8 l13 l18 l23 l28 l33 l38 l42 l46 l51 l56 l61 l62
   clear hs hq
   go_simp
   exact hK.out _ rfl
  ·show StepRS _ _ _ _ _ _ _ _
   unfold StepRS
   intro L_ u w_ hj hd K hK
   have h24:u 24= .pointer (some ⟨a,6,none⟩):=hd.get 21 (by kernel_rfl)
   clear hd
   simp only [h24]at hK
   obtain⟨q,hq,l8,l13,l18,l23,l28,l33,l38,l42,l46,l51,l56,l61,l62,hs⟩:=hj
   clear l8 l13 l18 l23 l28 l33 l38 l42 l46 l51 l56 l61 l62
   obtain⟨D_,V_,hs⟩:=hs
   have hx:=cell_chg HX6.out hs.ch
   clear hs hq
   go_simp
   exact hK.out _ rfl
  ·show StepWS _ _ _ _ _ _ _ _ _
   unfold StepWS
   intro L_ u w_ hj hli hwt hd K hK
   have h25:u 25=ptV (D0 3 0):=hd.get 22 (by kernel_rfl)
   clear hd
   simp only [h25]at hK
   obtain⟨q,hq,l8,l13,l18,l23,l28,l33,l38,l42,l46,l51,l56,l61,l62,hs⟩:=hj
   have kq: ¬3<q:=fun e=>by rw [l23,decide_eq_true e]at hli;cases hli
   have kw:L_ 18=true:=hwt ⟨18,.chain⟩ (by simp) rfl
   rw [l18,decide_eq_true_eq]at kw
   obtain rfl:q=3:=by omega
   clear kq hq kw
   obtain⟨D_,V_,hs⟩:=hs
   go_simp
   refine Calls.mono (pfork (m:=3) hp (HP0.out.new hs.ch) hs.pt (by omega) (by have:=hs.ch.size;have:=HB.out;omega) rfl rfl) ?_
   rintro z w2 ⟨D2,V2,rfl,hp2,hk2,c2⟩
   exact hK.out _ w2 ⟨4,by omega,l8,l13,l18,rfl,l28,l33,l38,l42,l46,l51,l56,l61,l62,⟨D2,V2,hp2,hs.ak.trans hk2 (by decide),chg_then hs.ch c2,(fun _=>(hs.e11 (by omega)).trans (hk2 0 (by decide)).2.symm),(fun _=>(hs.e16 (by omega)).trans (hk2 1 (by decide)).2.symm),(fun _=>(hs.e21 (by omega)).trans (by rw [(hk2 2 (by decide)).1])),(fun _=>rfl),(fun e=>absurd e (by omega)),(fun e=>absurd e (by omega)),(fun e=>absurd e (by omega)),(fun e=>absurd e (by omega)),(fun e=>absurd e (by omega)),(fun e=>absurd e (by omega)),(fun e=>absurd e (by omega)),(fun e=>absurd e (by omega)),(fun e=>absurd e (by omega)),blk_keep hs.z c2 (fun f=>f)⟩⟩ trivial
  ·show StepRS _ _ _ _ _ _ _ _
   unfold StepRS
   intro L_ u w_ hj hd K hK
   clear hd
   obtain⟨q,hq,l8,l13,l18,l23,l28,l33,l38,l42,l46,l51,l56,l61,l62,hs⟩:=hj
   clear l8 l13 l18 l23 l28 l33 l38 l42 l46 l51 l56 l61 l62
   clear hs hq
   go_simp
   exact hK.out _ rfl
  ·show StepRS _ _ _ _ _ _ _ _
   unfold StepRS
   intro L_ u w_ hj hd K hK
   have h27:u 27= .pointer (some ⟨a,0,none⟩):=hd.get 24 (by kernel_rfl)
   clear hd
   simp only [h27]at hK
   obtain⟨q,hq,l8,l13,l18,l23,l28,l33,l38,l42,l46,l51,l56,l61,l62,hs⟩:=hj
   clear l8 l13 l18 l23 l28 l33 l38 l42 l46 l51 l56 l61 l62
   clear hs hq
   go_simp
   exact hK.out _ rfl
  ·show StepRS _ _ _ _ _ _ _ _
   unfold StepRS
   intro L_ u w_ hj hd K hK
   have h28:u 28= .pointer (some ⟨a,0,none⟩):=hd.get 25 (by kernel_rfl)
   clear hd
   simp only [h28]at hK
   obtain⟨q,hq,l8,l13,l18,l23,l28,l33,l38,l42,l46,l51,l56,l61,l62,hs⟩:=hj
   clear l8 l13 l18 l23 l28 l33 l38 l42 l46 l51 l56 l61 l62
   clear hs hq
   go_simp
   exact hK.out _ rfl
  ·show StepRS _ _ _ _ _ _ _ _
   unfold StepRS
   intro L_ u w_ hj hd K hK
   have h29:u 29= .pointer (some ⟨a,7,none⟩):=hd.get 26 (by kernel_rfl)
   clear hd
   simp only [h29]at hK
   obtain⟨q,hq,l8,l13,l18,l23,l28,l33,l38,l42,l46,l51,l56,l61,l62,hs⟩:=hj
   clear l8 l13 l18 l23 l28 l33 l38 l42 l46 l51 l56 l61 l62
   obtain⟨D_,V_,hs⟩:=hs
   have hx:=cell_chg HX7.out hs.ch
   clear hs hq
   go_simp
   exact hK.out _ rfl
  ·show StepWS _ _ _ _ _ _ _ _ _
   unfold StepWS
   intro L_ u w_ hj hli hwt hd K hK
   have h30:u 30=ptV (D0 4 0):=hd.get 27 (by kernel_rfl)
   clear hd
   simp only [h30]at hK
   obtain⟨q,hq,l8,l13,l18,l23,l28,l33,l38,l42,l46,l51,l56,l61,l62,hs⟩:=hj
   have kq: ¬4<q:=fun e=>by rw [l28,decide_eq_true e]at hli;cases hli
   have kw:L_ 23=true:=hwt ⟨23,.chain⟩ (by simp) rfl
   rw [l23,decide_eq_true_eq]at kw
   obtain rfl:q=4:=by omega
   clear kq hq kw
   obtain⟨D_,V_,hs⟩:=hs
   go_simp
   refine Calls.mono (pfork (m:=4) hp (HP0.out.new hs.ch) hs.pt (by omega) (by have:=hs.ch.size;have:=HB.out;omega) rfl rfl) ?_
   rintro z w2 ⟨D2,V2,rfl,hp2,hk2,c2⟩
   exact hK.out _ w2 ⟨5,by omega,l8,l13,l18,l23,rfl,l33,l38,l42,l46,l51,l56,l61,l62,⟨D2,V2,hp2,hs.ak.trans hk2 (by decide),chg_then hs.ch c2,(fun _=>(hs.e11 (by omega)).trans (hk2 0 (by decide)).2.symm),(fun _=>(hs.e16 (by omega)).trans (hk2 1 (by decide)).2.symm),(fun _=>(hs.e21 (by omega)).trans (by rw [(hk2 2 (by decide)).1])),(fun _=>(hs.e26 (by omega)).trans (by rw [(hk2 3 (by decide)).1])),(fun _=>rfl),(fun e=>absurd e (by omega)),(fun e=>absurd e (by omega)),(fun e=>absurd e (by omega)),(fun e=>absurd e (by omega)),(fun e=>absurd e (by omega)),(fun e=>absurd e (by omega)),(fun e=>absurd e (by omega)),(fun e=>absurd e (by omega)),blk_keep hs.z c2 (fun f=>f)⟩⟩ trivial
  ·show StepRS _ _ _ _ _ _ _ _
   unfold StepRS
   intro L_ u w_ hj hd K hK
   clear hd
   obtain⟨q,hq,l8,l13,l18,l23,l28,l33,l38,l42,l46,l51,l56,l61,l62,hs⟩:=hj
   clear l8 l13 l18 l23 l28 l33 l38 l42 l46 l51 l56 l61 l62
   clear hs hq
   go_simp
   exact hK.out _ rfl
  ·show StepRS _ _ _ _ _ _ _ _
   unfold StepRS
   intro L_ u w_ hj hd K hK
   have h32:u 32= .pointer (some ⟨a,0,none⟩):=hd.get 29 (by kernel_rfl)
   clear hd
   simp only [h32]at hK
   obtain⟨q,hq,l8,l13,l18,l23,l28,l33,l38,l42,l46,l51,l56,l61,l62,hs⟩:=hj
   clear l8 l13 l18 l23 l28 l33 l38 l42 l46 l51 l56 l61 l62
   clear hs hq
   go_simp
   exact hK.out _ rfl
  ·show StepRS _ _ _ _ _ _ _ _
   unfold StepRS
   intro L_ u w_ hj hd K hK
   have h33:u 33= .pointer (some ⟨a,0,none⟩):=hd.get 30 (by kernel_rfl)
   clear hd
   simp only [h33]at hK
   obtain⟨q,hq,l8,l13,l18,l23,l28,l33,l38,l42,l46,l51,l56,l61,l62,hs⟩:=hj
   clear l8 l13 l18 l23 l28 l33 l38 l42 l46 l51 l56 l61 l62
   clear hs hq
   go_simp
   exact hK.out _ rfl
  ·show StepRS _ _ _ _ _ _ _ _
   unfold StepRS
   intro L_ u w_ hj hd K hK
   have h34:u 34= .pointer (some ⟨a,8,none⟩):=hd.get 31 (by kernel_rfl)
   clear hd
   simp only [h34]at hK
   obtain⟨q,hq,l8,l13,l18,l23,l28,l33,l38,l42,l46,l51,l56,l61,l62,hs⟩:=hj
   clear l8 l13 l18 l23 l28 l33 l38 l42 l46 l51 l56 l61 l62
   obtain⟨D_,V_,hs⟩:=hs
   have hx:=cell_chg HX8.out hs.ch
   clear hs hq
   go_simp
   exact hK.out _ rfl
  ·show StepWS _ _ _ _ _ _ _ _ _
   unfold StepWS
   intro L_ u w_ hj hli hwt hd K hK
   have h35:u 35=ptV (D0 5 0):=hd.get 32 (by kernel_rfl)
   clear hd
   simp only [h35]at hK
   obtain⟨q,hq,l8,l13,l18,l23,l28,l33,l38,l42,l46,l51,l56,l61,l62,hs⟩:=hj
   have kq: ¬5<q:=fun e=>by rw [l33,decide_eq_true e]at hli;cases hli
   have kw:L_ 28=true:=hwt ⟨28,.chain⟩ (by simp) rfl
   rw [l28,decide_eq_true_eq]at kw
   obtain rfl:q=5:=by omega
   clear kq hq kw
   obtain⟨D_,V_,hs⟩:=hs
   go_simp
   refine Calls.mono (pfork (m:=5) hp (HP0.out.new hs.ch) hs.pt (by omega) (by have:=hs.ch.size;have:=HB.out;omega) rfl rfl) ?_
   rintro z w2 ⟨D2,V2,rfl,hp2,hk2,c2⟩
   exact hK.out _ w2 ⟨6,by omega,l8,l13,l18,l23,l28,rfl,l38,l42,l46,l51,l56,l61,l62,⟨D2,V2,hp2,hs.ak.trans hk2 (by decide),chg_then hs.ch c2,(fun _=>(hs.e11 (by omega)).trans (hk2 0 (by decide)).2.symm),(fun _=>(hs.e16 (by omega)).trans (hk2 1 (by decide)).2.symm),(fun _=>(hs.e21 (by omega)).trans (by rw [(hk2 2 (by decide)).1])),(fun _=>(hs.e26 (by omega)).trans (by rw [(hk2 3 (by decide)).1])),(fun _=>(hs.e31 (by omega)).trans (by rw [(hk2 4 (by decide)).1])),(fun _=>rfl),(fun e=>absurd e (by omega)),(fun e=>absurd e (by omega)),(fun e=>absurd e (by omega)),(fun e=>absurd e (by omega)),(fun e=>absurd e (by omega)),(fun e=>absurd e (by omega)),(fun e=>absurd e (by omega)),blk_keep hs.z c2 (fun f=>f)⟩⟩ trivial
  ·show StepRS _ _ _ _ _ _ _ _
   unfold StepRS
   intro L_ u w_ hj hd K hK
   clear hd
   obtain⟨q,hq,l8,l13,l18,l23,l28,l33,l38,l42,l46,l51,l56,l61,l62,hs⟩:=hj
   clear l8 l13 l18 l23 l28 l33 l38 l42 l46 l51 l56 l61 l62
   clear hs hq
   go_simp
   exact hK.out _ rfl
  ·show StepRS _ _ _ _ _ _ _ _
   unfold StepRS
   intro L_ u w_ hj hd K hK
   have h37:u 37= .pointer (some ⟨a,0,none⟩):=hd.get 34 (by kernel_rfl)
   clear hd
   simp only [h37]at hK
   obtain⟨q,hq,l8,l13,l18,l23,l28,l33,l38,l42,l46,l51,l56,l61,l62,hs⟩:=hj
   clear l8 l13 l18 l23 l28 l33 l38 l42 l46 l51 l56 l61 l62
   clear hs hq
   go_simp
   exact hK.out _ rfl
  ·show StepRS _ _ _ _ _ _ _ _
   unfold StepRS
   intro L_ u w_ hj hd K hK
   have h38:u 38= .pointer (some ⟨a,0,none⟩):=hd.get 35 (by kernel_rfl)
   clear hd
   simp only [h38]at hK
   obtain⟨q,hq,l8,l13,l18,l23,l28,l33,l38,l42,l46,l51,l56,l61,l62,hs⟩:=hj
   clear l8 l13 l18 l23 l28 l33 l38 l42 l46 l51 l56 l61 l62
   clear hs hq
   go_simp
   exact hK.out _ rfl
  ·show StepRS _ _ _ _ _ _ _ _
   unfold StepRS
   intro L_ u w_ hj hd K hK
   have h39:u 39= .pointer (some ⟨a,9,none⟩):=hd.get 36 (by kernel_rfl)
   clear hd
   simp only [h39]at hK
   obtain⟨q,hq,l8,l13,l18,l23,l28,l33,l38,l42,l46,l51,l56,l61,l62,hs⟩:=hj
   clear l8 l13 l18 l23 l28 l33 l38 l42 l46 l51 l56 l61 l62
   obtain⟨D_,V_,hs⟩:=hs
   have hx:=cell_chg HX9.out hs.ch
   clear hs hq
   go_simp
   exact hK.out _ rfl
  ·show StepWS _ _ _ _ _ _ _ _ _
   unfold StepWS
   intro L_ u w_ hj hli hwt hd K hK
   have h40:u 40=V0 6:=hd.get 37 (by kernel_rfl)
   clear hd
   simp only [h40]at hK
   obtain⟨q,hq,l8,l13,l18,l23,l28,l33,l38,l42,l46,l51,l56,l61,l62,hs⟩:=hj
   have kq: ¬6<q:=fun e=>by rw [l38,decide_eq_true e]at hli;cases hli
   have kw:L_ 33=true:=hwt ⟨33,.chain⟩ (by simp) rfl
   rw [l33,decide_eq_true_eq]at kw
   obtain rfl:q=6:=by omega
   clear kq hq kw
   obtain⟨D_,V_,hs⟩:=hs
   go_simp
   refine Calls.mono (pforks (m:=6) hp (HP0.out.new hs.ch) hs.pt (by omega) (by have:=hs.ch.size;have:=HB.out;omega) rfl) ?_
   rintro z w2 ⟨D2,V2,rfl,hp2,hk2,c2⟩
   exact hK.out _ w2 ⟨7,by omega,l8,l13,l18,l23,l28,l33,rfl,l42,l46,l51,l56,l61,l62,⟨D2,V2,hp2,hs.ak.trans hk2 (by decide),chg_then hs.ch c2,(fun _=>(hs.e11 (by omega)).trans (hk2 0 (by decide)).2.symm),(fun _=>(hs.e16 (by omega)).trans (hk2 1 (by decide)).2.symm),(fun _=>(hs.e21 (by omega)).trans (by rw [(hk2 2 (by decide)).1])),(fun _=>(hs.e26 (by omega)).trans (by rw [(hk2 3 (by decide)).1])),(fun _=>(hs.e31 (by omega)).trans (by rw [(hk2 4 (by decide)).1])),(fun _=>(hs.e36 (by omega)).trans (by rw [(hk2 5 (by decide)).1])),(fun _=>rfl),(fun e=>absurd e (by omega)),(fun e=>absurd e (by omega)),(fun e=>absurd e (by omega)),(fun e=>absurd e (by omega)),(fun e=>absurd e (by omega)),(fun e=>absurd e (by omega)),blk_keep hs.z c2 (fun f=>f)⟩⟩ trivial
  ·show StepRS _ _ _ _ _ _ _ _
   unfold StepRS
   intro L_ u w_ hj hd K hK
   clear hd
   obtain⟨q,hq,l8,l13,l18,l23,l28,l33,l38,l42,l46,l51,l56,l61,l62,hs⟩:=hj
   clear l8 l13 l18 l23 l28 l33 l38 l42 l46 l51 l56 l61 l62
   clear hs hq
   go_simp
   exact hK.out _ rfl
  ·show StepRS _ _ _ _ _ _ _ _
   unfold StepRS
   intro L_ u w_ hj hd K hK
   have h42:u 42= .pointer (some ⟨a,0,none⟩):=hd.get 39 (by kernel_rfl)
   clear hd
   simp only [h42]at hK
   obtain⟨q,hq,l8,l13,l18,l23,l28,l33,l38,l42,l46,l51,l56,l61,l62,hs⟩:=hj
   clear l8 l13 l18 l23 l28 l33 l38 l42 l46 l51 l56 l61 l62
   clear hs hq
   go_simp
   exact hK.out _ rfl
  ·show StepRS _ _ _ _ _ _ _ _
   unfold StepRS
   intro L_ u w_ hj hd K hK
   have h43:u 43= .pointer (some ⟨a,0,none⟩):=hd.get 40 (by kernel_rfl)
   clear hd
   simp only [h43]at hK
   obtain⟨q,hq,l8,l13,l18,l23,l28,l33,l38,l42,l46,l51,l56,l61,l62,hs⟩:=hj
   clear l8 l13 l18 l23 l28 l33 l38 l42 l46 l51 l56 l61 l62
   clear hs hq
   go_simp
   exact hK.out _ rfl
  ·show StepWS _ _ _ _ _ _ _ _ _
   unfold StepWS
   intro L_ u w_ hj hli hwt hd K hK
   have h44:u 44= .pointer (some ⟨a,10,none⟩):=hd.get 41 (by kernel_rfl)
   clear hd
   simp only [h44]at hK
   obtain⟨q,hq,l8,l13,l18,l23,l28,l33,l38,l42,l46,l51,l56,l61,l62,hs⟩:=hj
   have kq: ¬7<q:=fun e=>by rw [l42,decide_eq_true e]at hli;cases hli
   have kw:L_ 38=true:=hwt ⟨38,.chain⟩ (by simp) rfl
   rw [l38,decide_eq_true_eq]at kw
   obtain rfl:q=7:=by omega
   clear kq hq kw
   obtain⟨D_,V_,hs⟩:=hs
   go_simp
   refine Calls.mono (lenfork7 p hp pr B B0 a D0 V0 D_ V_ _ (HP0.out.new hs.ch) hs.pt (by have:=hs.ch.size;have:=HB.out;omega) (cell_chg HX10.out hs.ch) (cell_chg HX11.out hs.ch) (cell_chg HX12.out hs.ch) (cell_chg HX13.out hs.ch)) ?_
   rintro z w2 ⟨D2,V2,rfl,hp2,hk2,c2⟩
   exact hK.out _ w2 ⟨8,by omega,l8,l13,l18,l23,l28,l33,l38,rfl,l46,l51,l56,l61,l62,⟨D2,V2,hp2,hs.ak.trans hk2 (by decide),chg_then hs.ch c2,(fun _=>(hs.e11 (by omega)).trans (hk2 0 (by decide)).2.symm),(fun _=>(hs.e16 (by omega)).trans (hk2 1 (by decide)).2.symm),(fun _=>(hs.e21 (by omega)).trans (by rw [(hk2 2 (by decide)).1])),(fun _=>(hs.e26 (by omega)).trans (by rw [(hk2 3 (by decide)).1])),(fun _=>(hs.e31 (by omega)).trans (by rw [(hk2 4 (by decide)).1])),(fun _=>(hs.e36 (by omega)).trans (by rw [(hk2 5 (by decide)).1])),(fun _=>(hs.e41 (by omega)).trans (hk2 6 (by decide)).2.symm),(fun _=>rfl),(fun e=>absurd e (by omega)),(fun e=>absurd e (by omega)),(fun e=>absurd e (by omega)),(fun e=>absurd e (by omega)),(fun e=>absurd e (by omega)),blk_keep hs.z c2 (fun f=>f)⟩⟩ trivial
  ·show StepRS _ _ _ _ _ _ _ _
   unfold StepRS
   intro L_ u w_ hj hd K hK
   clear hd
   obtain⟨q,hq,l8,l13,l18,l23,l28,l33,l38,l42,l46,l51,l56,l61,l62,hs⟩:=hj
   clear l8 l13 l18 l23 l28 l33 l38 l42 l46 l51 l56 l61 l62
   clear hs hq
   go_simp
   exact hK.out _ rfl
  ·show StepRS _ _ _ _ _ _ _ _
   unfold StepRS
   intro L_ u w_ hj hd K hK
   have h46:u 46= .pointer (some ⟨a,0,none⟩):=hd.get 43 (by kernel_rfl)
   clear hd
   simp only [h46]at hK
   obtain⟨q,hq,l8,l13,l18,l23,l28,l33,l38,l42,l46,l51,l56,l61,l62,hs⟩:=hj
   clear l8 l13 l18 l23 l28 l33 l38 l42 l46 l51 l56 l61 l62
   clear hs hq
   go_simp
   exact hK.out _ rfl
  ·show StepRS _ _ _ _ _ _ _ _
   unfold StepRS
   intro L_ u w_ hj hd K hK
   have h47:u 47= .pointer (some ⟨a,0,none⟩):=hd.get 44 (by kernel_rfl)
   clear hd
   simp only [h47]at hK
   obtain⟨q,hq,l8,l13,l18,l23,l28,l33,l38,l42,l46,l51,l56,l61,l62,hs⟩:=hj
   clear l8 l13 l18 l23 l28 l33 l38 l42 l46 l51 l56 l61 l62
   clear hs hq
   go_simp
   exact hK.out _ rfl
  ·show StepWS _ _ _ _ _ _ _ _ _
   unfold StepWS
   intro L_ u w_ hj hli hwt hd K hK
   have h48:u 48= .pointer (some ⟨a,14,none⟩):=hd.get 45 (by kernel_rfl)
   clear hd
   simp only [h48]at hK
   obtain⟨q,hq,l8,l13,l18,l23,l28,l33,l38,l42,l46,l51,l56,l61,l62,hs⟩:=hj
   have kq: ¬8<q:=fun e=>by rw [l46,decide_eq_true e]at hli;cases hli
   have kw:L_ 42=true:=hwt ⟨42,.chain⟩ (by simp) rfl
   rw [l42,decide_eq_true_eq]at kw
   obtain rfl:q=8:=by omega
   clear kq hq kw
   obtain⟨D_,V_,hs⟩:=hs
   go_simp
   refine Calls.mono (lenfork11 p hp pr B B0 a D0 V0 D_ V_ _ (HP0.out.new hs.ch) hs.pt (by have:=hs.ch.size;have:=HB.out;omega) (cell_chg HX14.out hs.ch) (cell_chg HX15.out hs.ch) (cell_chg HX16.out hs.ch) (cell_chg HX17.out hs.ch)) ?_
   rintro z w2 ⟨D2,V2,rfl,hp2,hk2,c2⟩
   exact hK.out _ w2 ⟨9,by omega,l8,l13,l18,l23,l28,l33,l38,l42,rfl,l51,l56,l61,l62,⟨D2,V2,hp2,hs.ak.trans hk2 (by decide),chg_then hs.ch c2,(fun _=>(hs.e11 (by omega)).trans (hk2 0 (by decide)).2.symm),(fun _=>(hs.e16 (by omega)).trans (hk2 1 (by decide)).2.symm),(fun _=>(hs.e21 (by omega)).trans (by rw [(hk2 2 (by decide)).1])),(fun _=>(hs.e26 (by omega)).trans (by rw [(hk2 3 (by decide)).1])),(fun _=>(hs.e31 (by omega)).trans (by rw [(hk2 4 (by decide)).1])),(fun _=>(hs.e36 (by omega)).trans (by rw [(hk2 5 (by decide)).1])),(fun _=>(hs.e41 (by omega)).trans (hk2 6 (by decide)).2.symm),(fun _=>(hs.e45 (by omega)).trans (by rw [len_alk hk2 (by decide)])),(fun _=>rfl),(fun e=>absurd e (by omega)),(fun e=>absurd e (by omega)),(fun e=>absurd e (by omega)),(fun e=>absurd e (by omega)),blk_keep hs.z c2 (fun f=>f)⟩⟩ trivial
  ·show StepRS _ _ _ _ _ _ _ _
   unfold StepRS
   intro L_ u w_ hj hd K hK
   clear hd
   obtain⟨q,hq,l8,l13,l18,l23,l28,l33,l38,l42,l46,l51,l56,l61,l62,hs⟩:=hj
   clear l8 l13 l18 l23 l28 l33 l38 l42 l46 l51 l56 l61 l62
   clear hs hq
   go_simp
   exact hK.out _ rfl
  ·show StepRS _ _ _ _ _ _ _ _
   unfold StepRS
   intro L_ u w_ hj hd K hK
   have h50:u 50= .pointer (some ⟨a,0,none⟩):=hd.get 47 (by kernel_rfl)
   clear hd
   simp only [h50]at hK
   obtain⟨q,hq,l8,l13,l18,l23,l28,l33,l38,l42,l46,l51,l56,l61,l62,hs⟩:=hj
   clear l8 l13 l18 l23 l28 l33 l38 l42 l46 l51 l56 l61 l62
   clear hs hq
   go_simp
   exact hK.out _ rfl
  ·show StepRS _ _ _ _ _ _ _ _
   unfold StepRS
   intro L_ u w_ hj hd K hK
   have h51:u 51= .pointer (some ⟨a,0,none⟩):=hd.get 48 (by kernel_rfl)
   clear hd
   simp only [h51]at hK
   obtain⟨q,hq,l8,l13,l18,l23,l28,l33,l38,l42,l46,l51,l56,l61,l62,hs⟩:=hj
   clear l8 l13 l18 l23 l28 l33 l38 l42 l46 l51 l56 l61 l62
   clear hs hq
   go_simp
   exact hK.out _ rfl
  ·show StepRS _ _ _ _ _ _ _ _
   unfold StepRS
   intro L_ u w_ hj hd K hK
   have h52:u 52= .pointer (some ⟨a,18,none⟩):=hd.get 49 (by kernel_rfl)
   clear hd
   simp only [h52]at hK
   obtain⟨q,hq,l8,l13,l18,l23,l28,l33,l38,l42,l46,l51,l56,l61,l62,hs⟩:=hj
   clear l8 l13 l18 l23 l28 l33 l38 l42 l46 l51 l56 l61 l62
   obtain⟨D_,V_,hs⟩:=hs
   have hx:=cell_chg HX18.out hs.ch
   clear hs hq
   go_simp
   exact hK.out _ rfl
  ·show StepWS _ _ _ _ _ _ _ _ _
   unfold StepWS
   intro L_ u w_ hj hli hwt hd K hK
   have h53:u 53=V0 15:=hd.get 50 (by kernel_rfl)
   clear hd
   simp only [h53]at hK
   obtain⟨q,hq,l8,l13,l18,l23,l28,l33,l38,l42,l46,l51,l56,l61,l62,hs⟩:=hj
   have kq: ¬9<q:=fun e=>by rw [l51,decide_eq_true e]at hli;cases hli
   have kw:L_ 46=true:=hwt ⟨46,.chain⟩ (by simp) rfl
   rw [l46,decide_eq_true_eq]at kw
   obtain rfl:q=9:=by omega
   clear kq hq kw
   obtain⟨D_,V_,hs⟩:=hs
   go_simp
   refine Calls.mono (pforks (m:=15) hp (HP0.out.new hs.ch) hs.pt (by omega) (by have:=hs.ch.size;have:=HB.out;omega) rfl) ?_
   rintro z w2 ⟨D2,V2,rfl,hp2,hk2,c2⟩
   exact hK.out _ w2 ⟨10,by omega,l8,l13,l18,l23,l28,l33,l38,l42,l46,rfl,l56,l61,l62,⟨D2,V2,hp2,hs.ak.trans hk2 (by decide),chg_then hs.ch c2,(fun _=>(hs.e11 (by omega)).trans (hk2 0 (by decide)).2.symm),(fun _=>(hs.e16 (by omega)).trans (hk2 1 (by decide)).2.symm),(fun _=>(hs.e21 (by omega)).trans (by rw [(hk2 2 (by decide)).1])),(fun _=>(hs.e26 (by omega)).trans (by rw [(hk2 3 (by decide)).1])),(fun _=>(hs.e31 (by omega)).trans (by rw [(hk2 4 (by decide)).1])),(fun _=>(hs.e36 (by omega)).trans (by rw [(hk2 5 (by decide)).1])),(fun _=>(hs.e41 (by omega)).trans (hk2 6 (by decide)).2.symm),(fun _=>(hs.e45 (by omega)).trans (by rw [len_alk hk2 (by decide)])),(fun _=>(hs.e49 (by omega)).trans (by rw [len_alk hk2 (by decide)])),(fun _=>rfl),(fun e=>absurd e (by omega)),(fun e=>absurd e (by omega)),(fun e=>absurd e (by omega)),blk_keep hs.z c2 (fun f=>f)⟩⟩ trivial
  ·show StepRS _ _ _ _ _ _ _ _
   unfold StepRS
   intro L_ u w_ hj hd K hK
   clear hd
   obtain⟨q,hq,l8,l13,l18,l23,l28,l33,l38,l42,l46,l51,l56,l61,l62,hs⟩:=hj
   clear l8 l13 l18 l23 l28 l33 l38 l42 l46 l51 l56 l61 l62
   clear hs hq
   go_simp
   exact hK.out _ rfl
  ·show StepRS _ _ _ _ _ _ _ _
   unfold StepRS
   intro L_ u w_ hj hd K hK
   have h55:u 55= .pointer (some ⟨a,0,none⟩):=hd.get 52 (by kernel_rfl)
   clear hd
   simp only [h55]at hK
   obtain⟨q,hq,l8,l13,l18,l23,l28,l33,l38,l42,l46,l51,l56,l61,l62,hs⟩:=hj
   clear l8 l13 l18 l23 l28 l33 l38 l42 l46 l51 l56 l61 l62
   clear hs hq
   go_simp
   exact hK.out _ rfl
  ·show StepRS _ _ _ _ _ _ _ _
   unfold StepRS
   intro L_ u w_ hj hd K hK
   have h56:u 56= .pointer (some ⟨a,0,none⟩):=hd.get 53 (by kernel_rfl)
   clear hd
   simp only [h56]at hK
   obtain⟨q,hq,l8,l13,l18,l23,l28,l33,l38,l42,l46,l51,l56,l61,l62,hs⟩:=hj
   clear l8 l13 l18 l23 l28 l33 l38 l42 l46 l51 l56 l61 l62
   clear hs hq
   go_simp
   exact hK.out _ rfl
  ·show StepRS _ _ _ _ _ _ _ _
   unfold StepRS
   intro L_ u w_ hj hd K hK
   have h57:u 57= .pointer (some ⟨a,19,none⟩):=hd.get 54 (by kernel_rfl)
   clear hd
   simp only [h57]at hK
   obtain⟨q,hq,l8,l13,l18,l23,l28,l33,l38,l42,l46,l51,l56,l61,l62,hs⟩:=hj
   clear l8 l13 l18 l23 l28 l33 l38 l42 l46 l51 l56 l61 l62
   obtain⟨D_,V_,hs⟩:=hs
   have hx:=cell_chg HX19.out hs.ch
   clear hs hq
   go_simp
   exact hK.out _ rfl
  ·show StepWS _ _ _ _ _ _ _ _ _
   unfold StepWS
   intro L_ u w_ hj hli hwt hd K hK
   have h58:u 58=V0 16:=hd.get 55 (by kernel_rfl)
   clear hd
   simp only [h58]at hK
   obtain⟨q,hq,l8,l13,l18,l23,l28,l33,l38,l42,l46,l51,l56,l61,l62,hs⟩:=hj
   have kq: ¬10<q:=fun e=>by rw [l56,decide_eq_true e]at hli;cases hli
   have kw:L_ 51=true:=hwt ⟨51,.chain⟩ (by simp) rfl
   rw [l51,decide_eq_true_eq]at kw
   obtain rfl:q=10:=by omega
   clear kq hq kw
   obtain⟨D_,V_,hs⟩:=hs
   go_simp
   refine Calls.mono (pforks (m:=16) hp (HP0.out.new hs.ch) hs.pt (by omega) (by have:=hs.ch.size;have:=HB.out;omega) rfl) ?_
   rintro z w2 ⟨D2,V2,rfl,hp2,hk2,c2⟩
   exact hK.out _ w2 ⟨11,by omega,l8,l13,l18,l23,l28,l33,l38,l42,l46,l51,rfl,l61,l62,⟨D2,V2,hp2,hs.ak.trans hk2 (by decide),chg_then hs.ch c2,(fun _=>(hs.e11 (by omega)).trans (hk2 0 (by decide)).2.symm),(fun _=>(hs.e16 (by omega)).trans (hk2 1 (by decide)).2.symm),(fun _=>(hs.e21 (by omega)).trans (by rw [(hk2 2 (by decide)).1])),(fun _=>(hs.e26 (by omega)).trans (by rw [(hk2 3 (by decide)).1])),(fun _=>(hs.e31 (by omega)).trans (by rw [(hk2 4 (by decide)).1])),(fun _=>(hs.e36 (by omega)).trans (by rw [(hk2 5 (by decide)).1])),(fun _=>(hs.e41 (by omega)).trans (hk2 6 (by decide)).2.symm),(fun _=>(hs.e45 (by omega)).trans (by rw [len_alk hk2 (by decide)])),(fun _=>(hs.e49 (by omega)).trans (by rw [len_alk hk2 (by decide)])),(fun _=>(hs.e54 (by omega)).trans (hk2 15 (by decide)).2.symm),(fun _=>rfl),(fun e=>absurd e (by omega)),(fun e=>absurd e (by omega)),blk_keep hs.z c2 (fun f=>f)⟩⟩ trivial
  ·show StepRS _ _ _ _ _ _ _ _
   unfold StepRS
   intro L_ u w_ hj hd K hK
   clear hd
   obtain⟨q,hq,l8,l13,l18,l23,l28,l33,l38,l42,l46,l51,l56,l61,l62,hs⟩:=hj
   clear l8 l13 l18 l23 l28 l33 l38 l42 l46 l51 l56 l61 l62
   clear hs hq
   go_simp
   exact hK.out _ rfl
  ·show StepRS _ _ _ _ _ _ _ _
   unfold StepRS
   intro L_ u w_ hj hd K hK
   have h60:u 60= .pointer (some ⟨a,0,none⟩):=hd.get 57 (by kernel_rfl)
   clear hd
   simp only [h60]at hK
   obtain⟨q,hq,l8,l13,l18,l23,l28,l33,l38,l42,l46,l51,l56,l61,l62,hs⟩:=hj
   clear l8 l13 l18 l23 l28 l33 l38 l42 l46 l51 l56 l61 l62
   clear hs hq
   go_simp
   exact hK.out _ rfl
  ·show StepRS _ _ _ _ _ _ _ _
   unfold StepRS
   intro L_ u w_ hj hd K hK
   have h61:u 61= .pointer (some ⟨a,0,none⟩):=hd.get 58 (by kernel_rfl)
   clear hd
   simp only [h61]at hK
   obtain⟨q,hq,l8,l13,l18,l23,l28,l33,l38,l42,l46,l51,l56,l61,l62,hs⟩:=hj
   clear l8 l13 l18 l23 l28 l33 l38 l42 l46 l51 l56 l61 l62
   clear hs hq
   go_simp
   exact hK.out _ rfl
  ·show StepRS _ _ _ _ _ _ _ _
   unfold StepRS
   intro L_ u w_ hj hd K hK
   have h62:u 62= .pointer (some ⟨a,20,none⟩):=hd.get 59 (by kernel_rfl)
   clear hd
   simp only [h62]at hK
   obtain⟨q,hq,l8,l13,l18,l23,l28,l33,l38,l42,l46,l51,l56,l61,l62,hs⟩:=hj
   clear l8 l13 l18 l23 l28 l33 l38 l42 l46 l51 l56 l61 l62
   obtain⟨D_,V_,hs⟩:=hs
   have hx:=cell_chg HX20.out hs.ch
   clear hs hq
   go_simp
   exact hK.out _ rfl
  ·show StepWS _ _ _ _ _ _ _ _ _
   unfold StepWS
   intro L_ u w_ hj hli hwt hd K hK
   have h63:u 63=ptV (D0 17 0):=hd.get 60 (by kernel_rfl)
   clear hd
   simp only [h63]at hK
   obtain⟨q,hq,l8,l13,l18,l23,l28,l33,l38,l42,l46,l51,l56,l61,l62,hs⟩:=hj
   have kq: ¬11<q:=fun e=>by rw [l61,decide_eq_true e]at hli;cases hli
   have kw:L_ 56=true:=hwt ⟨56,.chain⟩ (by simp) rfl
   rw [l56,decide_eq_true_eq]at kw
   obtain rfl:q=11:=by omega
   clear kq hq kw
   obtain⟨D_,V_,hs⟩:=hs
   go_simp
   refine Calls.mono (pfork (m:=17) hp (HP0.out.new hs.ch) hs.pt (by omega) (by have:=hs.ch.size;have:=HB.out;omega) rfl rfl) ?_
   rintro z w2 ⟨D2,V2,rfl,hp2,hk2,c2⟩
   exact hK.out _ w2 ⟨12,by omega,l8,l13,l18,l23,l28,l33,l38,l42,l46,l51,l56,rfl,l62,⟨D2,V2,hp2,hs.ak.trans hk2 (by decide),chg_then hs.ch c2,(fun _=>(hs.e11 (by omega)).trans (hk2 0 (by decide)).2.symm),(fun _=>(hs.e16 (by omega)).trans (hk2 1 (by decide)).2.symm),(fun _=>(hs.e21 (by omega)).trans (by rw [(hk2 2 (by decide)).1])),(fun _=>(hs.e26 (by omega)).trans (by rw [(hk2 3 (by decide)).1])),(fun _=>(hs.e31 (by omega)).trans (by rw [(hk2 4 (by decide)).1])),(fun _=>(hs.e36 (by omega)).trans (by rw [(hk2 5 (by decide)).1])),(fun _=>(hs.e41 (by omega)).trans (hk2 6 (by decide)).2.symm),(fun _=>(hs.e45 (by omega)).trans (by rw [len_alk hk2 (by decide)])),(fun _=>(hs.e49 (by omega)).trans (by rw [len_alk hk2 (by decide)])),(fun _=>(hs.e54 (by omega)).trans (hk2 15 (by decide)).2.symm),(fun _=>(hs.e59 (by omega)).trans (hk2 16 (by decide)).2.symm),(fun _=>rfl),(fun e=>absurd e (by omega)),blk_keep hs.z c2 (fun f=>f)⟩⟩ trivial
  ·show StepWS _ _ _ _ _ _ _ _ _
   unfold StepWS
   intro L_ u w_ hj hli hwt hd K hK
   have h6:u 6= .agg #[.int .i64 p.lc,.int .i64 p.lp,.int .i64 p.pb]:=hd.get 3 (by kernel_rfl)
   clear hd
   simp only [h6]at hK
   obtain⟨q,hq,l8,l13,l18,l23,l28,l33,l38,l42,l46,l51,l56,l61,l62,hs⟩:=hj
   have kq: ¬12<q:=fun e=>by rw [l62,decide_eq_true e]at hli;cases hli
   have kw:L_ 61=true:=hwt ⟨61,.data⟩ (by simp) rfl
   rw [l61,decide_eq_true_eq]at kw
   obtain rfl:q=12:=by omega
   clear kq hq kw
   obtain⟨D_,V_,hs⟩:=hs
   have q11:=hs.e11 (by omega)
   have q16:=hs.e16 (by omega)
   have q21:=hs.e21 (by omega)
   have q26:=hs.e26 (by omega)
   have q31:=hs.e31 (by omega)
   have q36:=hs.e36 (by omega)
   have q41:=hs.e41 (by omega)
   have q45:=hs.e45 (by omega)
   have q49:=hs.e49 (by omega)
   have q54:=hs.e54 (by omega)
   have q59:=hs.e59 (by omega)
   have q64:=hs.e64 (by omega)
   obtain⟨a0,c0,f0⟩:=form1 (hs.pt.ls 0 (by decide) rfl)
   obtain⟨a1,c1,f1⟩:=form1 (hs.pt.ls 1 (by decide) rfl)
   obtain⟨a6,c6,f6⟩:=form1 (hs.pt.ls 6 (by decide) rfl)
   obtain⟨a8,c8,f8⟩:=form1 (hs.pt.ls 8 (by decide) rfl)
   obtain⟨a9,c9,f9⟩:=form1 (hs.pt.ls 9 (by decide) rfl)
   obtain⟨a12,c12,f12⟩:=form1 (hs.pt.ls 12 (by decide) rfl)
   obtain⟨a13,c13,f13⟩:=form1 (hs.pt.ls 13 (by decide) rfl)
   obtain⟨a15,c15,f15⟩:=form1 (hs.pt.ls 15 (by decide) rfl)
   obtain⟨a16,c16,f16⟩:=form1 (hs.pt.ls 16 (by decide) rfl)
   simp only [lenC]at q45 q49
   have HS:Hid _:=hs
   clear hs
   simp only [f0,f1,f6,f8,f9,f12,f13,f15,f16,ptV]at q11 q16 q21 q26 q31 q36 q41 q45 q49 q54 q59 q64
   simp only [q11,q16,q21,q26,q31,q36,q41,q45,q49,q54,q59,q64]at hK⊢
   go_simp
   refine hK.out _ _ ⟨13,by omega,l8,l13,l18,l23,l28,l33,l38,l42,l46,l51,l56,l61,rfl,⟨D_,V_,HS.out.pt,HS.out.ak,HS.out.ch,(fun _=>HS.out.e11 (by omega)),(fun _=>HS.out.e16 (by omega)),(fun _=>HS.out.e21 (by omega)),(fun _=>HS.out.e26 (by omega)),(fun _=>HS.out.e31 (by omega)),(fun _=>HS.out.e36 (by omega)),(fun _=>HS.out.e41 (by omega)),(fun _=>HS.out.e45 (by omega)),(fun _=>HS.out.e49 (by omega)),(fun _=>HS.out.e54 (by omega)),(fun _=>HS.out.e59 (by omega)),(fun _=>HS.out.e64 (by omega)),(fun _=>by simp only [tabC,lenC,f0,f1,f6,f8,f9,f12,f13,f15,f16,ptV];rfl),HS.out.z⟩⟩ trivial
 ·intro u w7 hj hA K hK
  obtain⟨q,hq,l8,l13,l18,l23,l28,l33,l38,l42,l46,l51,l56,l61,l62,hs⟩:=hj
  have hqn:12<q:=of_decide_eq_true (Eq.symm l62)
  clear l8 l13 l18 l23 l28 l33 l38 l42 l46 l51 l56 l61 l62
  obtain rfl:q=13:=by omega
  obtain⟨D_,V_,hs⟩:=hs
  have q9:=hs.e65 (by omega)
  have HT1:Hid _:=there_blk hs.z (o:=0) (n:=21) (by show 0+21≤21;omega)
  have HT2:Hid _:=tab_one hs.pt
  have hch:=chg_cells w0.heap.size (tabC p D_ V_).toList 0 w7
  have HPN:Hid _:=hs.pt.off hch (fun z e=>e) hs.z (by decide) (by decide) (by decide)
  have HBN:Hid ((w7.setCells w0.heap.size 0 (tabC p D_ V_).toList).heap[w0.heap.size]?=some (.cells (tabC p D_ V_) 82 (0,0))):=blk_over hs.z (by rfl)
  have HCN:Hid (Chg (fun _=>False) w0 (w7.setCells w0.heap.size 0 (tabC p D_ V_).toList)):=(chg_then HC.out hs.ch).trans hch (fun z e=> .inr (by omega))
  have HAK:Hid _:=hs.ak
  clear hs hch hA hq hqn
  simp only [q9]at hK⊢
  refine wp_store_mid 82 (.tmp 2) (.tmp 65) rfl w0.heap.size 0 (tabC p D_ V_) rfl rfl HT1.out infoMT HT2.out ?_
  refine hK.out _ _ ?_
  clear hK
  generalize w7.setCells w0.heap.size 0 (tabC p D_ V_).toList=WN at*
  go_wp2
  refine bodyPost_ret (results_cell_row rfl _ _ w0.heap.size 82 _ (0,0) _ rfl HBN.out Tryz.underlying82 rfl (by kernel_rfl)) rfl ?_
  exact⟨D_,V_,rfl,HPN.out,HCN.out⟩
end Go.Proofs.YthideplpcnhncaaGreatDoor
