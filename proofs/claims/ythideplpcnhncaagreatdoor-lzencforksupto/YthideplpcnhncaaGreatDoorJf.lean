/- Of no statement by itself: Jf (without blanks and remarks). -/
import Derived.Test.YthideplpcnhncaaGreatDoorB16Jd
namespace Go.Proofs.YthideplpcnhncaaGreatDoor
open Go.RowKit
open St12 Sy13 Lz14
set_option linter.unusedVariables false
set_option linter.unusedSimpArgs false
def kq (q:Nat):Nat:=if q=0 then 0 else if q=1 then 1 else if q=2 then 2 else if q=3 then 3 else if q=4 then 4 else if q=5 then 5 else if q=6 then 6 else if q=7 then 7 else if q=8 then 11 else if q=9 then 15 else if q=10 then 16 else if q=11 then 17 else 18
structure NewI (W:World) (B:Nat) (p:Prp) (D:Dir) (V:Lst) (g:Nat) (Z:Array Value) (q:Nat) (x21 x23 x24 x25 x26 x27 x34 x36 x38 x39 x40 x41 x42:Value) (w:World):Prop where
 pt:Part w B p fresh (kq q) D V
 ch:Chg (fun z=>z=g) W w
 fr:q<14→Chg (fun _=>False) W w
 e21:0<q→x21=V 0
 e23:1<q→x23=V 1
 e24:2<q→x24=ptV (D 2 0)
 e25:3<q→x25=ptV (D 3 0)
 e26:4<q→x26=ptV (D 4 0)
 e27:5<q→x27=ptV (D 5 0)
 e34:6<q→x34=V 6
 e36:7<q→x36= .agg (lenC D V 7)
 e38:8<q→x38= .agg (lenC D V 11)
 e39:9<q→x39=V 15
 e40:10<q→x40=V 16
 e41:11<q→x41=ptV (D 17 0)
 e42:12<q→x42= .agg (tabC p D V)
 z:q<14→w.heap[g]?=some (.cells Z 82 (0,0))
 y:13<q→w.heap[g]?=some (.cells (tabC p D V) 82 (0,0))
def NewJ (W:World)(B:Nat)(p:Prp)(g:Nat)(Z:Array Value)(q:Nat)(x21 x23 x24 x25 x26 x27 x34 x36 x38 x39 x40 x41 x42:Value)(w:World):Prop:= ∃D V,NewI W B p D V g Z q x21 x23 x24 x25 x26 x27 x34 x36 x38 x39 x40 x41 x42 w
theorem len_alk {D D':Dir}{V V':Lst}{m k:Nat}(h:Alk k D V D' V')(hm:m+4≤k):lenC D' V' m=lenC D V m:=by
 unfold lenC
 rw [(h m (by omega)).1,(h (m+1) (by omega)).2,(h (m+2) (by omega)).2,(h (m+3) (by omega)).1]
theorem byte_yes {p:Prp}(h:allow p):(byteP p).2=0:=by unfold byteP;rw [if_pos h]
theorem byte_no {p:Prp}(h: ¬allow p):(byteP p).2=6:=by unfold byteP;rw [if_neg h]
def Z21:Array Value:= #[.int .i64 0,.int .i64 0,.int .i64 0,.slice none 0 0,.slice none 0 0,.pointer none,.pointer none,.pointer none,.pointer none,.slice none 0 0,.pointer none,.slice none 0 0,.slice none 0 0,.pointer none,.pointer none,.slice none 0 0,.slice none 0 0,.pointer none,.slice none 0 0,.slice none 0 0,.pointer none]
theorem z21_one:Z21.all (·.oneCell')=true:=by kernel_rfl
theorem cells3p {w:World}{a:Nat}{x y z:Value}{t:TypeId}(h:w.heap[a]?=some (.cells #[x,y,z] t (0,0))):w.cell? ⟨a,0,none⟩=some x∧w.cell? ⟨a,1,none⟩=some y∧w.cell? ⟨a,2,none⟩=some z:=⟨by simp [World.cell?,h],by simp [World.cell?,h],by simp [World.cell?,h]⟩
theorem lay_alloc {w:World}{o1 o2:Obj}:((w.alloc o1).alloc o2).heap[w.heap.size]?=some o1∧((w.alloc o1).alloc o2).heap[w.heap.size+1]?=some o2:=⟨(Below.heap_alloc _ _ _ (by simp)).trans (heap_alloc_last w _),by
 have:=heap_alloc_last (w.alloc o1) o2
 rw [World.size_alloc]at this
 exact this⟩
set_option maxHeartbeats 8000000 in
set_option maxRecDepth 100000 in
theorem mnew_in (S:StSpec Tab)(p:Prp)(hpi:p.I)(hp:allow p)(B:Nat)(w0:World)(hT:Tab w0)(hB:B≤w0.heap.size):Calls Tryz.prog 31 #[.agg #[.int .i64 p.lc,.int .i64 p.lp,.int .i64 p.pb]] w0 fun e w'=> ∃D V,e= .returned (.tuple #[.agg (tabC p D V),.int .i64 0])∧Part w' B p fresh 18 D V∧Chg (fun _=>False) w0 w':=by
 have hpp:=pow_pb hp
 obtain⟨pl,hpl⟩: ∃pl,2^p.pb.toNat=pl:=⟨_,rfl⟩
 obtain⟨cl,hcl⟩: ∃cl,2^(p.lc+p.lp).toNat=cl:=⟨_,rfl⟩
 have HSP:Hid (wrap64 (2^p.pb.toNat)=(pl:Int)):=by rw [←hpl];exact wrap_pow (by omega) (by omega)
 have HSW:Hid (wrap64 (2^(p.lc+p.lp).toNat)=(cl:Int)):=by rw [←hcl];exact wrap_pow (by omega) (by omega)
 have HSH:Hid (IntKind.i64.wrap (2^(p.lc+p.lp).toNat)=(cl:Int)):=by
  have h9:=HSW.out
  unfold wrap64 at h9
  show _=_
  rw [IntKind.wrap_i64]
  exact h9
 have HLL:Hid (IntKind.i64.wrap (p.lc+p.lp)=p.lc+p.lp):=by show _=_;rw [IntKind.wrap_i64];omega
 have HB:Hid (B≤w0.heap.size):=hB
 have hlc:=hpp.2.2.1
 have hlp:=hpp.2.2.2.1
 have hpb:=hpp.2.2.2.2.1
 have hs4:=hpp.2.2.2.2.2.1
 have hp4:=hpp.2.2.2.2.2.2
 have HPB:Hid _:=S.pb p (w0.alloc (.cells #[.int .i64 p.lc,.int .i64 p.lp,.int .i64 p.pb] 23)|>.alloc (.cells Z21 82)) (S.keep hT (chg_then (chg_one _ _) (chg_one _ _))) hpi
 rw [byte_yes hp]at HPB
 have HC:Hid (Chg (fun _=>False) w0 ((w0.alloc (.cells #[.int .i64 p.lc,.int .i64 p.lp,.int .i64 p.pb] 23)).alloc (.cells Z21 82))):=chg_then (chg_one _ _) (chg_one _ _)
 have HP3:Hid (((w0.alloc (.cells #[.int .i64 p.lc,.int .i64 p.lp,.int .i64 p.pb] 23)).alloc (.cells Z21 82)).heap[w0.heap.size]?=some (.cells #[.int .i64 p.lc,.int .i64 p.lp,.int .i64 p.pb] 23 (0,0))):=lay_alloc.1
 have HZ:Hid (((w0.alloc (.cells #[.int .i64 p.lc,.int .i64 p.lp,.int .i64 p.pb] 23)).alloc (.cells Z21 82)).heap[w0.heap.size+1]?=some (.cells Z21 82 (0,0))):=lay_alloc.2
 obtain⟨y0,y1,y2⟩:=cells3p HP3.out
 unfold Z21 at HZ HP3 HC HPB y0 y1 y2
 clear hT hB hpi hpp
 unfold prv at HPB
 have HPL:Hid (2^p.pb.toNat=pl):=hpl
 have HCL:Hid (2^(p.lc+p.lp).toNat=cl):=hcl
 clear hpl hcl
 go_enter Tryz.func31,Tryz.ntmps31
 go_wp2_with fail
 generalize ((w0.alloc (.cells #[.int .i64 p.lc,.int .i64 p.lp,.int .i64 p.pb] 23)).alloc (.cells #[.int .i64 0,.int .i64 0,.int .i64 0,.slice none 0 0,.slice none 0 0,.pointer none,.pointer none,.pointer none,.pointer none,.slice none 0 0,.pointer none,.slice none 0 0,.slice none 0 0,.pointer none,.pointer none,.slice none 0 0,.slice none 0 0,.pointer none,.slice none 0 0,.slice none 0 0,.pointer none] 82))=W0 at*
 refine Calls.mono HPB.out ?_
 rintro z W ⟨rfl,cW⟩
 have y2:=cell_chg y2 cW
 have HP3:Hid _:=blk_keep HP3.out cW (fun f=>f)
 have HZ:Hid _:=blk_keep HZ.out cW (fun f=>f)
 have HC:Hid _:=chg_then HC.out cW
 have HG:Hid (w0.heap.size<w0.heap.size+1):=by show _<_;omega
 clear cW HPB y0 y1
 generalize (byteP p).1=bp
 go_upto_region 5 with fail
 rw [HSP.out]
 have HB:Hid (B≤W.heap.size):=Nat.le_trans HB.out HC.out.size
 change Hid (W.heap[w0.heap.size+1]?=some (.cells Z21 82 (0,0)))at HZ
 refine wp_region_setM (mk:=fun u=> #[_,_,_,_,_,_,_,_,_,_,_,_,_,_,_,_,_,_,_,u 19,u 20,u 21,u 22,u 23,u 24,u 25,u 26,u 27,u 28,u 29,u 30,u 31,u 32,u 33,u 34,u 35,u 36,u 37,u 38,u 39,u 40,u 41,u 42]) (G:=lookG [(19,.agg #[.int .i64 p.lc,.int .i64 p.lp,.int .i64 p.pb]),(20,.int .i64 (pl:Int)),(22,.int .i64 (pl:Int)),(28,.pointer (some ⟨w0.heap.size,0,none⟩)),(29,.int .i64 p.lc),(30,.pointer (some ⟨w0.heap.size,1,none⟩)),(31,.int .i64 p.lp),(32,.int .i64 (p.lc+p.lp)),(33,.int .i64 (cl:Int)),(35,.int .i64 (pl:Int)),(37,.int .i64 (pl:Int))]) (J:=fun L_ u ww=> ∃q,q≤14∧L_ 2=decide (0<q)∧L_ 4=decide (1<q)∧L_ 5=decide (2<q)∧L_ 6=decide (3<q)∧L_ 7=decide (4<q)∧L_ 8=decide (5<q)∧L_ 15=decide (6<q)∧L_ 17=decide (7<q)∧L_ 19=decide (8<q)∧L_ 20=decide (9<q)∧L_ 21=decide (10<q)∧L_ 22=decide (11<q)∧L_ 23=decide (12<q)∧L_ 24=decide (13<q)∧NewJ W B p (w0.heap.size+1) Z21 q (u 21) (u 23) (u 24) (u 25) (u 26) (u 27) (u 34) (u 36) (u 38) (u 39) (u 40) (u 41) (u 42) ww) [2,4,5,6,7,8,15,17,19,20,21,22,23,24] ([]) (fun t=>if t=3 then .int .i64 0 else undef) rfl (by kernel_rfl) 25 _ rfl rfl (by kernel_rfl) (by kernel_rfl) ?_ ?_ ?_ ?_ ?_
 ·repeat (refine⟨fun _ _=>rfl,?_⟩)
  exact trivial
 ·intro L_ L2 u u2 ww h hj
  obtain⟨q,hq,l2,l4,l5,l6,l7,l8,l15,l17,l19,l20,l21,l22,l23,l24,hs⟩:=hj
  have e21_:u 21=u2 21:=(h 2 (by decide)).2
  have e23_:u 23=u2 23:=(h 4 (by decide)).2
  have e24_:u 24=u2 24:=(h 5 (by decide)).2
  have e25_:u 25=u2 25:=(h 6 (by decide)).2
  have e26_:u 26=u2 26:=(h 7 (by decide)).2
  have e27_:u 27=u2 27:=(h 8 (by decide)).2
  have e34_:u 34=u2 34:=(h 15 (by decide)).2
  have e36_:u 36=u2 36:=(h 17 (by decide)).2
  have e38_:u 38=u2 38:=(h 19 (by decide)).2
  have e39_:u 39=u2 39:=(h 20 (by decide)).2
  have e40_:u 40=u2 40:=(h 21 (by decide)).2
  have e41_:u 41=u2 41:=(h 22 (by decide)).2
  have e42_:u 42=u2 42:=(h 23 (by decide)).2
  rw [e21_,e23_,e24_,e25_,e26_,e27_,e34_,e36_,e38_,e39_,e40_,e41_,e42_]at hs
  exact⟨q,hq,((h 2 (by decide)).1).symm.trans l2,((h 4 (by decide)).1).symm.trans l4,((h 5 (by decide)).1).symm.trans l5,((h 6 (by decide)).1).symm.trans l6,((h 7 (by decide)).1).symm.trans l7,((h 8 (by decide)).1).symm.trans l8,((h 15 (by decide)).1).symm.trans l15,((h 17 (by decide)).1).symm.trans l17,((h 19 (by decide)).1).symm.trans l19,((h 20 (by decide)).1).symm.trans l20,((h 21 (by decide)).1).symm.trans l21,((h 22 (by decide)).1).symm.trans l22,((h 23 (by decide)).1).symm.trans l23,((h 24 (by decide)).1).symm.trans l24,hs⟩
 ·exact⟨0,by omega,rfl,rfl,rfl,rfl,rfl,rfl,rfl,rfl,rfl,rfl,rfl,rfl,rfl,rfl,⟨fun _ _=>(0,.slice none 0 0),fun _=> .slice none 0 0,Part.none _ _ _ _ _ _,(Chg.refl _ W).drew,(fun _=>(Chg.refl _ W).drew),(fun e=>absurd e (by omega)),(fun e=>absurd e (by omega)),(fun e=>absurd e (by omega)),(fun e=>absurd e (by omega)),(fun e=>absurd e (by omega)),(fun e=>absurd e (by omega)),(fun e=>absurd e (by omega)),(fun e=>absurd e (by omega)),(fun e=>absurd e (by omega)),(fun e=>absurd e (by omega)),(fun e=>absurd e (by omega)),(fun e=>absurd e (by omega)),(fun e=>absurd e (by omega)),(fun _=>HZ.out),(fun e=>absurd e (by omega))⟩⟩
 ·refine⟨?_,?_,?_,?_,?_,?_,?_,?_,?_,?_,?_,?_,?_,?_,?_,?_,?_,?_,?_,?_,?_,?_,?_,?_,?_,trivial⟩
  ·show StepRS _ _ _ _ _ _ _ _
   unfold StepRS
   intro L_ u w_ hj hd K hK
   clear hd
   obtain⟨q,hq,l2,l4,l5,l6,l7,l8,l15,l17,l19,l20,l21,l22,l23,l24,hs⟩:=hj
   clear l2 l4 l5 l6 l7 l8 l15 l17 l19 l20 l21 l22 l23 l24
   obtain⟨D_,V_,hs⟩:=hs
   have hq9:=HG.out
   obtain⟨x0,x1,x2⟩:=cells3p (blk_keep HP3.out hs.ch (fun e=>by omega))
   clear hs hq hq9
   go_simp
   exact hK.out _ rfl
  ·show StepRS _ _ _ _ _ _ _ _
   unfold StepRS
   intro L_ u w_ hj hd K hK
   clear hd
   obtain⟨q,hq,l2,l4,l5,l6,l7,l8,l15,l17,l19,l20,l21,l22,l23,l24,hs⟩:=hj
   clear l2 l4 l5 l6 l7 l8 l15 l17 l19 l20 l21 l22 l23 l24
   clear hs hq
   go_simp
   exact hK.out _ rfl
  ·show StepWS _ _ _ _ _ _ _ _ _
   unfold StepWS
   intro L_ u w_ hj hli hwt hd K hK
   have h20:u 20= .int .i64 (pl:Int):=hd.get 1 (by kernel_rfl)
   clear hd
   simp only [h20]at hK
   obtain⟨q,hq,l2,l4,l5,l6,l7,l8,l15,l17,l19,l20,l21,l22,l23,l24,hs⟩:=hj
   have kq: ¬0<q:=fun e=>by rw [l2,decide_eq_true e]at hli;cases hli
   obtain rfl:q=0:=by omega
   clear kq hq
   obtain⟨D_,V_,hs⟩:=hs
   go_simp
   refine Calls.mono (prows (m:=0) hp hs.pt (by have:=hs.ch.size;have:=HB.out;omega) 12 rfl pl HPL.out) ?_
   rintro z w2 ⟨D2,V2,rfl,hp2,hk2,c2⟩
   exact hK.out _ w2 ⟨1,by omega,rfl,l4,l5,l6,l7,l8,l15,l17,l19,l20,l21,l22,l23,l24,⟨D2,V2,hp2,hs.ch.trans c2 (fun _ f=>f.elim),(fun _=>chg_then (hs.fr (by omega)) c2),(fun _=>rfl),(fun e=>absurd e (by omega)),(fun e=>absurd e (by omega)),(fun e=>absurd e (by omega)),(fun e=>absurd e (by omega)),(fun e=>absurd e (by omega)),(fun e=>absurd e (by omega)),(fun e=>absurd e (by omega)),(fun e=>absurd e (by omega)),(fun e=>absurd e (by omega)),(fun e=>absurd e (by omega)),(fun e=>absurd e (by omega)),(fun e=>absurd e (by omega)),(fun _=>blk_keep (hs.z (by omega)) c2 (fun f=>f)),(fun e=>absurd e (by omega))⟩⟩ trivial
  ·show StepRS _ _ _ _ _ _ _ _
   unfold StepRS
   intro L_ u w_ hj hd K hK
   clear hd
   obtain⟨q,hq,l2,l4,l5,l6,l7,l8,l15,l17,l19,l20,l21,l22,l23,l24,hs⟩:=hj
   clear l2 l4 l5 l6 l7 l8 l15 l17 l19 l20 l21 l22 l23 l24
   clear hs hq
   go_simp
   exact hK.out _ rfl
  ·show StepWS _ _ _ _ _ _ _ _ _
   unfold StepWS
   intro L_ u w_ hj hli hwt hd K hK
   have h22:u 22= .int .i64 (pl:Int):=hd.get 3 (by kernel_rfl)
   clear hd
   simp only [h22]at hK
   obtain⟨q,hq,l2,l4,l5,l6,l7,l8,l15,l17,l19,l20,l21,l22,l23,l24,hs⟩:=hj
   have kq: ¬1<q:=fun e=>by rw [l4,decide_eq_true e]at hli;cases hli
   have kw:L_ 2=true:=hwt ⟨2,.chain⟩ (by simp) rfl
   rw [l2,decide_eq_true_eq]at kw
   obtain rfl:q=1:=by omega
   clear kq hq kw
   obtain⟨D_,V_,hs⟩:=hs
   go_simp
   refine Calls.mono (prows (m:=1) hp hs.pt (by have:=hs.ch.size;have:=HB.out;omega) 12 rfl pl HPL.out) ?_
   rintro z w2 ⟨D2,V2,rfl,hp2,hk2,c2⟩
   exact hK.out _ w2 ⟨2,by omega,l2,rfl,l5,l6,l7,l8,l15,l17,l19,l20,l21,l22,l23,l24,⟨D2,V2,hp2,hs.ch.trans c2 (fun _ f=>f.elim),(fun _=>chg_then (hs.fr (by omega)) c2),(fun _=>(hs.e21 (by omega)).trans (hk2 0 (by omega)).2.symm),(fun _=>rfl),(fun e=>absurd e (by omega)),(fun e=>absurd e (by omega)),(fun e=>absurd e (by omega)),(fun e=>absurd e (by omega)),(fun e=>absurd e (by omega)),(fun e=>absurd e (by omega)),(fun e=>absurd e (by omega)),(fun e=>absurd e (by omega)),(fun e=>absurd e (by omega)),(fun e=>absurd e (by omega)),(fun e=>absurd e (by omega)),(fun _=>blk_keep (hs.z (by omega)) c2 (fun f=>f)),(fun e=>absurd e (by omega))⟩⟩ trivial
  ·show StepWS _ _ _ _ _ _ _ _ _
   unfold StepWS
   intro L_ u w_ hj hli hwt hd K hK
   clear hd
   obtain⟨q,hq,l2,l4,l5,l6,l7,l8,l15,l17,l19,l20,l21,l22,l23,l24,hs⟩:=hj
   have kq: ¬2<q:=fun e=>by rw [l5,decide_eq_true e]at hli;cases hli
   have kw:L_ 4=true:=hwt ⟨4,.chain⟩ (by simp) rfl
   rw [l4,decide_eq_true_eq]at kw
   obtain rfl:q=2:=by omega
   clear kq hq kw
   obtain⟨D_,V_,hs⟩:=hs
   go_simp
   refine Calls.mono (prow (m:=2) hp hs.pt (by have:=hs.ch.size;have:=HB.out;omega) rfl rfl 12 rfl) ?_
   rintro z w2 ⟨D2,V2,rfl,hp2,hk2,c2⟩
   exact hK.out _ w2 ⟨3,by omega,l2,l4,rfl,l6,l7,l8,l15,l17,l19,l20,l21,l22,l23,l24,⟨D2,V2,hp2,hs.ch.trans c2 (fun _ f=>f.elim),(fun _=>chg_then (hs.fr (by omega)) c2),(fun _=>(hs.e21 (by omega)).trans (hk2 0 (by omega)).2.symm),(fun _=>(hs.e23 (by omega)).trans (hk2 1 (by omega)).2.symm),(fun _=>rfl),(fun e=>absurd e (by omega)),(fun e=>absurd e (by omega)),(fun e=>absurd e (by omega)),(fun e=>absurd e (by omega)),(fun e=>absurd e (by omega)),(fun e=>absurd e (by omega)),(fun e=>absurd e (by omega)),(fun e=>absurd e (by omega)),(fun e=>absurd e (by omega)),(fun e=>absurd e (by omega)),(fun _=>blk_keep (hs.z (by omega)) c2 (fun f=>f)),(fun e=>absurd e (by omega))⟩⟩ trivial
  ·show StepWS _ _ _ _ _ _ _ _ _
   unfold StepWS
   intro L_ u w_ hj hli hwt hd K hK
   clear hd
   obtain⟨q,hq,l2,l4,l5,l6,l7,l8,l15,l17,l19,l20,l21,l22,l23,l24,hs⟩:=hj
   have kq: ¬3<q:=fun e=>by rw [l6,decide_eq_true e]at hli;cases hli
   have kw:L_ 5=true:=hwt ⟨5,.chain⟩ (by simp) rfl
   rw [l5,decide_eq_true_eq]at kw
   obtain rfl:q=3:=by omega
   clear kq hq kw
   obtain⟨D_,V_,hs⟩:=hs
   go_simp
   refine Calls.mono (prow (m:=3) hp hs.pt (by have:=hs.ch.size;have:=HB.out;omega) rfl rfl 12 rfl) ?_
   rintro z w2 ⟨D2,V2,rfl,hp2,hk2,c2⟩
   exact hK.out _ w2 ⟨4,by omega,l2,l4,l5,rfl,l7,l8,l15,l17,l19,l20,l21,l22,l23,l24,⟨D2,V2,hp2,hs.ch.trans c2 (fun _ f=>f.elim),(fun _=>chg_then (hs.fr (by omega)) c2),(fun _=>(hs.e21 (by omega)).trans (hk2 0 (by omega)).2.symm),(fun _=>(hs.e23 (by omega)).trans (hk2 1 (by omega)).2.symm),(fun _=>(hs.e24 (by omega)).trans (by rw [(hk2 2 (by omega)).1])),(fun _=>rfl),(fun e=>absurd e (by omega)),(fun e=>absurd e (by omega)),(fun e=>absurd e (by omega)),(fun e=>absurd e (by omega)),(fun e=>absurd e (by omega)),(fun e=>absurd e (by omega)),(fun e=>absurd e (by omega)),(fun e=>absurd e (by omega)),(fun e=>absurd e (by omega)),(fun _=>blk_keep (hs.z (by omega)) c2 (fun f=>f)),(fun e=>absurd e (by omega))⟩⟩ trivial
  ·show StepWS _ _ _ _ _ _ _ _ _
   unfold StepWS
   intro L_ u w_ hj hli hwt hd K hK
   clear hd
   obtain⟨q,hq,l2,l4,l5,l6,l7,l8,l15,l17,l19,l20,l21,l22,l23,l24,hs⟩:=hj
   have kq: ¬4<q:=fun e=>by rw [l7,decide_eq_true e]at hli;cases hli
   have kw:L_ 6=true:=hwt ⟨6,.chain⟩ (by simp) rfl
   rw [l6,decide_eq_true_eq]at kw
   obtain rfl:q=4:=by omega
   clear kq hq kw
   obtain⟨D_,V_,hs⟩:=hs
   go_simp
   refine Calls.mono (prow (m:=4) hp hs.pt (by have:=hs.ch.size;have:=HB.out;omega) rfl rfl 12 rfl) ?_
   rintro z w2 ⟨D2,V2,rfl,hp2,hk2,c2⟩
   exact hK.out _ w2 ⟨5,by omega,l2,l4,l5,l6,rfl,l8,l15,l17,l19,l20,l21,l22,l23,l24,⟨D2,V2,hp2,hs.ch.trans c2 (fun _ f=>f.elim),(fun _=>chg_then (hs.fr (by omega)) c2),(fun _=>(hs.e21 (by omega)).trans (hk2 0 (by omega)).2.symm),(fun _=>(hs.e23 (by omega)).trans (hk2 1 (by omega)).2.symm),(fun _=>(hs.e24 (by omega)).trans (by rw [(hk2 2 (by omega)).1])),(fun _=>(hs.e25 (by omega)).trans (by rw [(hk2 3 (by omega)).1])),(fun _=>rfl),(fun e=>absurd e (by omega)),(fun e=>absurd e (by omega)),(fun e=>absurd e (by omega)),(fun e=>absurd e (by omega)),(fun e=>absurd e (by omega)),(fun e=>absurd e (by omega)),(fun e=>absurd e (by omega)),(fun e=>absurd e (by omega)),(fun _=>blk_keep (hs.z (by omega)) c2 (fun f=>f)),(fun e=>absurd e (by omega))⟩⟩ trivial
  ·show StepWS _ _ _ _ _ _ _ _ _
   unfold StepWS
   intro L_ u w_ hj hli hwt hd K hK
   clear hd
   obtain⟨q,hq,l2,l4,l5,l6,l7,l8,l15,l17,l19,l20,l21,l22,l23,l24,hs⟩:=hj
   have kq: ¬5<q:=fun e=>by rw [l8,decide_eq_true e]at hli;cases hli
   have kw:L_ 7=true:=hwt ⟨7,.chain⟩ (by simp) rfl
   rw [l7,decide_eq_true_eq]at kw
   obtain rfl:q=5:=by omega
   clear kq hq kw
   obtain⟨D_,V_,hs⟩:=hs
   go_simp
   refine Calls.mono (prow (m:=5) hp hs.pt (by have:=hs.ch.size;have:=HB.out;omega) rfl rfl 12 rfl) ?_
   rintro z w2 ⟨D2,V2,rfl,hp2,hk2,c2⟩
   exact hK.out _ w2 ⟨6,by omega,l2,l4,l5,l6,l7,rfl,l15,l17,l19,l20,l21,l22,l23,l24,⟨D2,V2,hp2,hs.ch.trans c2 (fun _ f=>f.elim),(fun _=>chg_then (hs.fr (by omega)) c2),(fun _=>(hs.e21 (by omega)).trans (hk2 0 (by omega)).2.symm),(fun _=>(hs.e23 (by omega)).trans (hk2 1 (by omega)).2.symm),(fun _=>(hs.e24 (by omega)).trans (by rw [(hk2 2 (by omega)).1])),(fun _=>(hs.e25 (by omega)).trans (by rw [(hk2 3 (by omega)).1])),(fun _=>(hs.e26 (by omega)).trans (by rw [(hk2 4 (by omega)).1])),(fun _=>rfl),(fun e=>absurd e (by omega)),(fun e=>absurd e (by omega)),(fun e=>absurd e (by omega)),(fun e=>absurd e (by omega)),(fun e=>absurd e (by omega)),(fun e=>absurd e (by omega)),(fun e=>absurd e (by omega)),(fun _=>blk_keep (hs.z (by omega)) c2 (fun f=>f)),(fun e=>absurd e (by omega))⟩⟩ trivial
  ·show StepRS _ _ _ _ _ _ _ _
   unfold StepRS
   intro L_ u w_ hj hd K hK
   clear hd
   obtain⟨q,hq,l2,l4,l5,l6,l7,l8,l15,l17,l19,l20,l21,l22,l23,l24,hs⟩:=hj
   clear l2 l4 l5 l6 l7 l8 l15 l17 l19 l20 l21 l22 l23 l24
   clear hs hq
   go_simp
   exact hK.out _ rfl
  ·show StepRS _ _ _ _ _ _ _ _
   unfold StepRS
   intro L_ u w_ hj hd K hK
   have h28:u 28= .pointer (some ⟨w0.heap.size,0,none⟩):=hd.get 9 (by kernel_rfl)
   clear hd
   simp only [h28]at hK
   obtain⟨q,hq,l2,l4,l5,l6,l7,l8,l15,l17,l19,l20,l21,l22,l23,l24,hs⟩:=hj
   clear l2 l4 l5 l6 l7 l8 l15 l17 l19 l20 l21 l22 l23 l24
   obtain⟨D_,V_,hs⟩:=hs
   have hq9:=HG.out
   obtain⟨x0,x1,x2⟩:=cells3p (blk_keep HP3.out hs.ch (fun e=>by omega))
   clear hs hq hq9
   go_simp
   exact hK.out _ rfl
  ·show StepRS _ _ _ _ _ _ _ _
   unfold StepRS
   intro L_ u w_ hj hd K hK
   clear hd
   obtain⟨q,hq,l2,l4,l5,l6,l7,l8,l15,l17,l19,l20,l21,l22,l23,l24,hs⟩:=hj
   clear l2 l4 l5 l6 l7 l8 l15 l17 l19 l20 l21 l22 l23 l24
   clear hs hq
   go_simp
   exact hK.out _ rfl
  ·show StepRS _ _ _ _ _ _ _ _
   unfold StepRS
   intro L_ u w_ hj hd K hK
   have h30:u 30= .pointer (some ⟨w0.heap.size,1,none⟩):=hd.get 11 (by kernel_rfl)
   clear hd
   simp only [h30]at hK
   obtain⟨q,hq,l2,l4,l5,l6,l7,l8,l15,l17,l19,l20,l21,l22,l23,l24,hs⟩:=hj
   clear l2 l4 l5 l6 l7 l8 l15 l17 l19 l20 l21 l22 l23 l24
   obtain⟨D_,V_,hs⟩:=hs
   have hq9:=HG.out
   obtain⟨x0,x1,x2⟩:=cells3p (blk_keep HP3.out hs.ch (fun e=>by omega))
   clear hs hq hq9
   go_simp
   exact hK.out _ rfl
  ·show StepRS _ _ _ _ _ _ _ _
   unfold StepRS
   intro L_ u w_ hj hd K hK
   have h29:u 29= .int .i64 p.lc:=hd.get 10 (by kernel_rfl)
   have h31:u 31= .int .i64 p.lp:=hd.get 12 (by kernel_rfl)
   clear hd
   simp only [h29,h31]at hK
   obtain⟨q,hq,l2,l4,l5,l6,l7,l8,l15,l17,l19,l20,l21,l22,l23,l24,hs⟩:=hj
   clear l2 l4 l5 l6 l7 l8 l15 l17 l19 l20 l21 l22 l23 l24
   clear hs hq
   go_simp
   first|exact hK.out _ rfl|(rw [HLL.out];exact hK.out _ rfl)
  ·show StepRS _ _ _ _ _ _ _ _
   unfold StepRS
   intro L_ u w_ hj hd K hK
   have h32:u 32= .int .i64 (p.lc+p.lp):=hd.get 13 (by kernel_rfl)
   clear hd
   simp only [h32]at hK
   obtain⟨q,hq,l2,l4,l5,l6,l7,l8,l15,l17,l19,l20,l21,l22,l23,l24,hs⟩:=hj
   clear l2 l4 l5 l6 l7 l8 l15 l17 l19 l20 l21 l22 l23 l24
   clear hs hq
   go_simp
   first|rw [HSH.out]|rw [HSW.out]
   exact hK.out _ rfl
  ·show StepWS _ _ _ _ _ _ _ _ _
   unfold StepWS
   intro L_ u w_ hj hli hwt hd K hK
   have h33:u 33= .int .i64 (cl:Int):=hd.get 14 (by kernel_rfl)
   clear hd
   simp only [h33]at hK
   obtain⟨q,hq,l2,l4,l5,l6,l7,l8,l15,l17,l19,l20,l21,l22,l23,l24,hs⟩:=hj
   have kq: ¬6<q:=fun e=>by rw [l15,decide_eq_true e]at hli;cases hli
   have kw:L_ 8=true:=hwt ⟨8,.chain⟩ (by simp) rfl
   rw [l8,decide_eq_true_eq]at kw
   obtain rfl:q=6:=by omega
   clear kq hq kw
   obtain⟨D_,V_,hs⟩:=hs
   go_simp
   refine Calls.mono (prows (m:=6) hp hs.pt (by have:=hs.ch.size;have:=HB.out;omega) cl HCL.out 768 rfl) ?_
   rintro z w2 ⟨D2,V2,rfl,hp2,hk2,c2⟩
   exact hK.out _ w2 ⟨7,by omega,l2,l4,l5,l6,l7,l8,rfl,l17,l19,l20,l21,l22,l23,l24,⟨D2,V2,hp2,hs.ch.trans c2 (fun _ f=>f.elim),(fun _=>chg_then (hs.fr (by omega)) c2),(fun _=>(hs.e21 (by omega)).trans (hk2 0 (by omega)).2.symm),(fun _=>(hs.e23 (by omega)).trans (hk2 1 (by omega)).2.symm),(fun _=>(hs.e24 (by omega)).trans (by rw [(hk2 2 (by omega)).1])),(fun _=>(hs.e25 (by omega)).trans (by rw [(hk2 3 (by omega)).1])),(fun _=>(hs.e26 (by omega)).trans (by rw [(hk2 4 (by omega)).1])),(fun _=>(hs.e27 (by omega)).trans (by rw [(hk2 5 (by omega)).1])),(fun _=>rfl),(fun e=>absurd e (by omega)),(fun e=>absurd e (by omega)),(fun e=>absurd e (by omega)),(fun e=>absurd e (by omega)),(fun e=>absurd e (by omega)),(fun e=>absurd e (by omega)),(fun _=>blk_keep (hs.z (by omega)) c2 (fun f=>f)),(fun e=>absurd e (by omega))⟩⟩ trivial
  ·show StepRS _ _ _ _ _ _ _ _
   unfold StepRS
   intro L_ u w_ hj hd K hK
   clear hd
   obtain⟨q,hq,l2,l4,l5,l6,l7,l8,l15,l17,l19,l20,l21,l22,l23,l24,hs⟩:=hj
   clear l2 l4 l5 l6 l7 l8 l15 l17 l19 l20 l21 l22 l23 l24
   clear hs hq
   go_simp
   exact hK.out _ rfl
  ·show StepWS _ _ _ _ _ _ _ _ _
   unfold StepWS
   intro L_ u w_ hj hli hwt hd K hK
   have h35:u 35= .int .i64 (pl:Int):=hd.get 16 (by kernel_rfl)
   clear hd
   simp only [h35]at hK
   obtain⟨q,hq,l2,l4,l5,l6,l7,l8,l15,l17,l19,l20,l21,l22,l23,l24,hs⟩:=hj
   have kq: ¬7<q:=fun e=>by rw [l17,decide_eq_true e]at hli;cases hli
   have kw:L_ 15=true:=hwt ⟨15,.chain⟩ (by simp) rfl
   rw [l15,decide_eq_true_eq]at kw
   obtain rfl:q=7:=by omega
   clear kq hq kw
   obtain⟨D_,V_,hs⟩:=hs
   go_simp
   refine Calls.mono (newlen7 p hp pl HPL.out B D_ V_ _ hs.pt (by have:=hs.ch.size;have:=HB.out;omega)) ?_
   rintro z w2 ⟨D2,V2,rfl,hp2,hk2,c2⟩
   exact hK.out _ w2 ⟨8,by omega,l2,l4,l5,l6,l7,l8,l15,rfl,l19,l20,l21,l22,l23,l24,⟨D2,V2,hp2,hs.ch.trans c2 (fun _ f=>f.elim),(fun _=>chg_then (hs.fr (by omega)) c2),(fun _=>(hs.e21 (by omega)).trans (hk2 0 (by omega)).2.symm),(fun _=>(hs.e23 (by omega)).trans (hk2 1 (by omega)).2.symm),(fun _=>(hs.e24 (by omega)).trans (by rw [(hk2 2 (by omega)).1])),(fun _=>(hs.e25 (by omega)).trans (by rw [(hk2 3 (by omega)).1])),(fun _=>(hs.e26 (by omega)).trans (by rw [(hk2 4 (by omega)).1])),(fun _=>(hs.e27 (by omega)).trans (by rw [(hk2 5 (by omega)).1])),(fun _=>(hs.e34 (by omega)).trans (hk2 6 (by omega)).2.symm),(fun _=>rfl),(fun e=>absurd e (by omega)),(fun e=>absurd e (by omega)),(fun e=>absurd e (by omega)),(fun e=>absurd e (by omega)),(fun e=>absurd e (by omega)),(fun _=>blk_keep (hs.z (by omega)) c2 (fun f=>f)),(fun e=>absurd e (by omega))⟩⟩ trivial
  ·show StepRS _ _ _ _ _ _ _ _
   unfold StepRS
   intro L_ u w_ hj hd K hK
   clear hd
   obtain⟨q,hq,l2,l4,l5,l6,l7,l8,l15,l17,l19,l20,l21,l22,l23,l24,hs⟩:=hj
   clear l2 l4 l5 l6 l7 l8 l15 l17 l19 l20 l21 l22 l23 l24
   clear hs hq
   go_simp
   exact hK.out _ rfl
  ·show StepWS _ _ _ _ _ _ _ _ _
   unfold StepWS
   intro L_ u w_ hj hli hwt hd K hK
   have h37:u 37= .int .i64 (pl:Int):=hd.get 18 (by kernel_rfl)
   clear hd
   simp only [h37]at hK
   obtain⟨q,hq,l2,l4,l5,l6,l7,l8,l15,l17,l19,l20,l21,l22,l23,l24,hs⟩:=hj
   have kq: ¬8<q:=fun e=>by rw [l19,decide_eq_true e]at hli;cases hli
   have kw:L_ 17=true:=hwt ⟨17,.chain⟩ (by simp) rfl
   rw [l17,decide_eq_true_eq]at kw
   obtain rfl:q=8:=by omega
   clear kq hq kw
   obtain⟨D_,V_,hs⟩:=hs
   go_simp
   refine Calls.mono (newlen11 p hp pl HPL.out B D_ V_ _ hs.pt (by have:=hs.ch.size;have:=HB.out;omega)) ?_
   rintro z w2 ⟨D2,V2,rfl,hp2,hk2,c2⟩
   exact hK.out _ w2 ⟨9,by omega,l2,l4,l5,l6,l7,l8,l15,l17,rfl,l20,l21,l22,l23,l24,⟨D2,V2,hp2,hs.ch.trans c2 (fun _ f=>f.elim),(fun _=>chg_then (hs.fr (by omega)) c2),(fun _=>(hs.e21 (by omega)).trans (hk2 0 (by omega)).2.symm),(fun _=>(hs.e23 (by omega)).trans (hk2 1 (by omega)).2.symm),(fun _=>(hs.e24 (by omega)).trans (by rw [(hk2 2 (by omega)).1])),(fun _=>(hs.e25 (by omega)).trans (by rw [(hk2 3 (by omega)).1])),(fun _=>(hs.e26 (by omega)).trans (by rw [(hk2 4 (by omega)).1])),(fun _=>(hs.e27 (by omega)).trans (by rw [(hk2 5 (by omega)).1])),(fun _=>(hs.e34 (by omega)).trans (hk2 6 (by omega)).2.symm),(fun _=>(hs.e36 (by omega)).trans (by rw [len_alk hk2 (by omega)])),(fun _=>rfl),(fun e=>absurd e (by omega)),(fun e=>absurd e (by omega)),(fun e=>absurd e (by omega)),(fun e=>absurd e (by omega)),(fun _=>blk_keep (hs.z (by omega)) c2 (fun f=>f)),(fun e=>absurd e (by omega))⟩⟩ trivial
  ·show StepWS _ _ _ _ _ _ _ _ _
   unfold StepWS
   intro L_ u w_ hj hli hwt hd K hK
   clear hd
   obtain⟨q,hq,l2,l4,l5,l6,l7,l8,l15,l17,l19,l20,l21,l22,l23,l24,hs⟩:=hj
   have kq: ¬9<q:=fun e=>by rw [l20,decide_eq_true e]at hli;cases hli
   have kw:L_ 19=true:=hwt ⟨19,.chain⟩ (by simp) rfl
   rw [l19,decide_eq_true_eq]at kw
   obtain rfl:q=9:=by omega
   clear kq hq kw
   obtain⟨D_,V_,hs⟩:=hs
   go_simp
   refine Calls.mono (prows (m:=15) hp hs.pt (by have:=hs.ch.size;have:=HB.out;omega) 4 rfl 64 rfl) ?_
   rintro z w2 ⟨D2,V2,rfl,hp2,hk2,c2⟩
   exact hK.out _ w2 ⟨10,by omega,l2,l4,l5,l6,l7,l8,l15,l17,l19,rfl,l21,l22,l23,l24,⟨D2,V2,hp2,hs.ch.trans c2 (fun _ f=>f.elim),(fun _=>chg_then (hs.fr (by omega)) c2),(fun _=>(hs.e21 (by omega)).trans (hk2 0 (by omega)).2.symm),(fun _=>(hs.e23 (by omega)).trans (hk2 1 (by omega)).2.symm),(fun _=>(hs.e24 (by omega)).trans (by rw [(hk2 2 (by omega)).1])),(fun _=>(hs.e25 (by omega)).trans (by rw [(hk2 3 (by omega)).1])),(fun _=>(hs.e26 (by omega)).trans (by rw [(hk2 4 (by omega)).1])),(fun _=>(hs.e27 (by omega)).trans (by rw [(hk2 5 (by omega)).1])),(fun _=>(hs.e34 (by omega)).trans (hk2 6 (by omega)).2.symm),(fun _=>(hs.e36 (by omega)).trans (by rw [len_alk hk2 (by omega)])),(fun _=>(hs.e38 (by omega)).trans (by rw [len_alk hk2 (by omega)])),(fun _=>rfl),(fun e=>absurd e (by omega)),(fun e=>absurd e (by omega)),(fun e=>absurd e (by omega)),(fun _=>blk_keep (hs.z (by omega)) c2 (fun f=>f)),(fun e=>absurd e (by omega))⟩⟩ trivial
  ·show StepWS _ _ _ _ _ _ _ _ _
   unfold StepWS
   intro L_ u w_ hj hli hwt hd K hK
   clear hd
   obtain⟨q,hq,l2,l4,l5,l6,l7,l8,l15,l17,l19,l20,l21,l22,l23,l24,hs⟩:=hj
   have kq: ¬10<q:=fun e=>by rw [l21,decide_eq_true e]at hli;cases hli
   have kw:L_ 20=true:=hwt ⟨20,.chain⟩ (by simp) rfl
   rw [l20,decide_eq_true_eq]at kw
   obtain rfl:q=10:=by omega
   clear kq hq kw
   obtain⟨D_,V_,hs⟩:=hs
   go_simp
   refine Calls.mono (prows (m:=16) hp hs.pt (by have:=hs.ch.size;have:=HB.out;omega) 10 rfl 32 rfl) ?_
   rintro z w2 ⟨D2,V2,rfl,hp2,hk2,c2⟩
   exact hK.out _ w2 ⟨11,by omega,l2,l4,l5,l6,l7,l8,l15,l17,l19,l20,rfl,l22,l23,l24,⟨D2,V2,hp2,hs.ch.trans c2 (fun _ f=>f.elim),(fun _=>chg_then (hs.fr (by omega)) c2),(fun _=>(hs.e21 (by omega)).trans (hk2 0 (by omega)).2.symm),(fun _=>(hs.e23 (by omega)).trans (hk2 1 (by omega)).2.symm),(fun _=>(hs.e24 (by omega)).trans (by rw [(hk2 2 (by omega)).1])),(fun _=>(hs.e25 (by omega)).trans (by rw [(hk2 3 (by omega)).1])),(fun _=>(hs.e26 (by omega)).trans (by rw [(hk2 4 (by omega)).1])),(fun _=>(hs.e27 (by omega)).trans (by rw [(hk2 5 (by omega)).1])),(fun _=>(hs.e34 (by omega)).trans (hk2 6 (by omega)).2.symm),(fun _=>(hs.e36 (by omega)).trans (by rw [len_alk hk2 (by omega)])),(fun _=>(hs.e38 (by omega)).trans (by rw [len_alk hk2 (by omega)])),(fun _=>(hs.e39 (by omega)).trans (hk2 15 (by omega)).2.symm),(fun _=>rfl),(fun e=>absurd e (by omega)),(fun e=>absurd e (by omega)),(fun _=>blk_keep (hs.z (by omega)) c2 (fun f=>f)),(fun e=>absurd e (by omega))⟩⟩ trivial
  ·show StepWS _ _ _ _ _ _ _ _ _
   unfold StepWS
   intro L_ u w_ hj hli hwt hd K hK
   clear hd
   obtain⟨q,hq,l2,l4,l5,l6,l7,l8,l15,l17,l19,l20,l21,l22,l23,l24,hs⟩:=hj
   have kq: ¬11<q:=fun e=>by rw [l22,decide_eq_true e]at hli;cases hli
   have kw:L_ 21=true:=hwt ⟨21,.chain⟩ (by simp) rfl
   rw [l21,decide_eq_true_eq]at kw
   obtain rfl:q=11:=by omega
   clear kq hq kw
   obtain⟨D_,V_,hs⟩:=hs
   go_simp
   refine Calls.mono (prow (m:=17) hp hs.pt (by have:=hs.ch.size;have:=HB.out;omega) rfl rfl 16 rfl) ?_
   rintro z w2 ⟨D2,V2,rfl,hp2,hk2,c2⟩
   exact hK.out _ w2 ⟨12,by omega,l2,l4,l5,l6,l7,l8,l15,l17,l19,l20,l21,rfl,l23,l24,⟨D2,V2,hp2,hs.ch.trans c2 (fun _ f=>f.elim),(fun _=>chg_then (hs.fr (by omega)) c2),(fun _=>(hs.e21 (by omega)).trans (hk2 0 (by omega)).2.symm),(fun _=>(hs.e23 (by omega)).trans (hk2 1 (by omega)).2.symm),(fun _=>(hs.e24 (by omega)).trans (by rw [(hk2 2 (by omega)).1])),(fun _=>(hs.e25 (by omega)).trans (by rw [(hk2 3 (by omega)).1])),(fun _=>(hs.e26 (by omega)).trans (by rw [(hk2 4 (by omega)).1])),(fun _=>(hs.e27 (by omega)).trans (by rw [(hk2 5 (by omega)).1])),(fun _=>(hs.e34 (by omega)).trans (hk2 6 (by omega)).2.symm),(fun _=>(hs.e36 (by omega)).trans (by rw [len_alk hk2 (by omega)])),(fun _=>(hs.e38 (by omega)).trans (by rw [len_alk hk2 (by omega)])),(fun _=>(hs.e39 (by omega)).trans (hk2 15 (by omega)).2.symm),(fun _=>(hs.e40 (by omega)).trans (hk2 16 (by omega)).2.symm),(fun _=>rfl),(fun e=>absurd e (by omega)),(fun _=>blk_keep (hs.z (by omega)) c2 (fun f=>f)),(fun e=>absurd e (by omega))⟩⟩ trivial
  ·show StepWS _ _ _ _ _ _ _ _ _
   unfold StepWS
   intro L_ u w_ hj hli hwt hd K hK
   have h19:u 19= .agg #[.int .i64 p.lc,.int .i64 p.lp,.int .i64 p.pb]:=hd.get 0 (by kernel_rfl)
   clear hd
   simp only [h19]at hK
   obtain⟨q,hq,l2,l4,l5,l6,l7,l8,l15,l17,l19,l20,l21,l22,l23,l24,hs⟩:=hj
   have kq: ¬12<q:=fun e=>by rw [l23,decide_eq_true e]at hli;cases hli
   have kw:L_ 22=true:=hwt ⟨22,.data⟩ (by simp) rfl
   rw [l22,decide_eq_true_eq]at kw
   obtain rfl:q=12:=by omega
   clear kq hq kw
   obtain⟨D_,V_,hs⟩:=hs
   have q21:=hs.e21 (by omega)
   have q23:=hs.e23 (by omega)
   have q24:=hs.e24 (by omega)
   have q25:=hs.e25 (by omega)
   have q26:=hs.e26 (by omega)
   have q27:=hs.e27 (by omega)
   have q34:=hs.e34 (by omega)
   have q36:=hs.e36 (by omega)
   have q38:=hs.e38 (by omega)
   have q39:=hs.e39 (by omega)
   have q40:=hs.e40 (by omega)
   have q41:=hs.e41 (by omega)
   obtain⟨a0,c0,f0⟩:=form1 (hs.pt.ls 0 (by decide) rfl)
   obtain⟨a1,c1,f1⟩:=form1 (hs.pt.ls 1 (by decide) rfl)
   obtain⟨a6,c6,f6⟩:=form1 (hs.pt.ls 6 (by decide) rfl)
   obtain⟨a8,c8,f8⟩:=form1 (hs.pt.ls 8 (by decide) rfl)
   obtain⟨a9,c9,f9⟩:=form1 (hs.pt.ls 9 (by decide) rfl)
   obtain⟨a12,c12,f12⟩:=form1 (hs.pt.ls 12 (by decide) rfl)
   obtain⟨a13,c13,f13⟩:=form1 (hs.pt.ls 13 (by decide) rfl)
   obtain⟨a15,c15,f15⟩:=form1 (hs.pt.ls 15 (by decide) rfl)
   obtain⟨a16,c16,f16⟩:=form1 (hs.pt.ls 16 (by decide) rfl)
   simp only [lenC]at q36 q38
   have HS:Hid _:=hs
   clear hs
   simp only [f0,f1,f6,f8,f9,f12,f13,f15,f16,ptV]at q21 q23 q24 q25 q26 q27 q34 q36 q38 q39 q40 q41
   simp only [q21,q23,q24,q25,q26,q27,q34,q36,q38,q39,q40,q41]at hK⊢
   go_simp
   refine hK.out _ _ ⟨13,by omega,l2,l4,l5,l6,l7,l8,l15,l17,l19,l20,l21,l22,rfl,l24,⟨D_,V_,HS.out.pt,HS.out.ch,(fun _=>HS.out.fr (by omega)),(fun _=>HS.out.e21 (by omega)),(fun _=>HS.out.e23 (by omega)),(fun _=>HS.out.e24 (by omega)),(fun _=>HS.out.e25 (by omega)),(fun _=>HS.out.e26 (by omega)),(fun _=>HS.out.e27 (by omega)),(fun _=>HS.out.e34 (by omega)),(fun _=>HS.out.e36 (by omega)),(fun _=>HS.out.e38 (by omega)),(fun _=>HS.out.e39 (by omega)),(fun _=>HS.out.e40 (by omega)),(fun _=>HS.out.e41 (by omega)),(fun _=>by simp only [tabC,f0,f1,f6,f8,f9,f12,f13,f15,f16,ptV];rfl),(fun _=>HS.out.z (by omega)),(fun e=>absurd e (by omega))⟩⟩ trivial
  ·show StepWS _ _ _ _ _ _ _ _ _
   unfold StepWS
   intro L_ u w_ hj hli hwt hd K hK
   clear hd
   obtain⟨q,hq,l2,l4,l5,l6,l7,l8,l15,l17,l19,l20,l21,l22,l23,l24,hs⟩:=hj
   have kq: ¬13<q:=fun e=>by rw [l24,decide_eq_true e]at hli;cases hli
   have kw:L_ 23=true:=hwt ⟨23,.data⟩ (by simp) rfl
   rw [l23,decide_eq_true_eq]at kw
   obtain rfl:q=13:=by omega
   clear kq hq kw
   obtain⟨D_,V_,hs⟩:=hs
   have q42:=hs.e42 (by omega)
   have hz:=hs.z (by omega)
   have HT1:Hid _:=there_blk hz (o:=0) (n:=21) (by show 0+21≤21;omega)
   have HT2:Hid _:=tab_one hs.pt
   have hch:=chg_cells (w0.heap.size+1) (tabC p D_ V_).toList 0 w_
   have HPN:Hid _:=hs.pt.off hch (fun z e=>e) hz (by decide) (by decide) (by decide)
   have HBN:Hid ((w_.setCells (w0.heap.size+1) 0 (tabC p D_ V_).toList).heap[w0.heap.size+1]?=some (.cells (tabC p D_ V_) 82 (0,0))):=blk_over hz (by rfl)
   have HS:Hid _:=hs
   have HCH:Hid _:=hch
   clear hs hz hch
   simp only [q42]at hK⊢
   rw [if_pos (by rfl)]
   refine wp_store_mid 82 (.tmp 2) (.tmp 42) rfl (w0.heap.size+1) 0 (tabC p D_ V_) rfl rfl HT1.out infoMT HT2.out ?_
   refine hK.out undef _ ⟨14,by omega,l2,l4,l5,l6,l7,l8,l15,l17,l19,l20,l21,l22,l23,rfl,⟨D_,V_,HPN.out,HS.out.ch.trans HCH.out (fun z e=> .inl e),(fun e=>absurd e (by omega)),(fun _=>HS.out.e21 (by omega)),(fun _=>HS.out.e23 (by omega)),(fun _=>HS.out.e24 (by omega)),(fun _=>HS.out.e25 (by omega)),(fun _=>HS.out.e26 (by omega)),(fun _=>HS.out.e27 (by omega)),(fun _=>HS.out.e34 (by omega)),(fun _=>HS.out.e36 (by omega)),(fun _=>HS.out.e38 (by omega)),(fun _=>HS.out.e39 (by omega)),(fun _=>HS.out.e40 (by omega)),(fun _=>HS.out.e41 (by omega)),(fun _=>HS.out.e42 (by omega)),(fun e=>absurd e (by omega)),(fun _=>HBN.out)⟩⟩ trivial
 ·intro u w7 hj hA K hK
  obtain⟨q,hq,l2,l4,l5,l6,l7,l8,l15,l17,l19,l20,l21,l22,l23,l24,hs⟩:=hj
  have hqn:13<q:=of_decide_eq_true (Eq.symm l24)
  clear l2 l4 l5 l6 l7 l8 l15 l17 l19 l20 l21 l22 l23 l24
  obtain rfl:q=14:=by omega
  obtain⟨D_,V_,hs⟩:=hs
  have HS:Hid _:=hs
  clear hA hs hq
  go_simp
  refine hK.out _ _ ?_
  clear hK
  go_wp2
  refine bodyPost_ret (results_cell_tmp_row rfl _ _ (w0.heap.size+1) 82 _ (0,0) _ rfl (HS.out.y (by omega)) Tryz.underlying82 rfl (by kernel_rfl)) rfl ?_
  ·exact⟨D_,V_,rfl,HS.out.pt,HC.out.trans HS.out.ch (fun z e=> .inr (by omega))⟩
set_option maxHeartbeats 8000000 in
set_option maxRecDepth 100000 in
theorem mnew_out (S:StSpec Tab)(p:Prp)(hpi:p.I)(hp: ¬allow p)(w0:World)(hT:Tab w0):Calls Tryz.prog 31 #[.agg #[.int .i64 p.lc,.int .i64 p.lp,.int .i64 p.pb]] w0 fun e w'=>e= .returned (.tuple #[.agg Z21,.int .i64 6])∧Chg (fun _=>False) w0 w':=by
 have HPB:Hid _:=S.pb p (w0.alloc (.cells #[.int .i64 p.lc,.int .i64 p.lp,.int .i64 p.pb] 23)|>.alloc (.cells Z21 82)) (S.keep hT (chg_then (chg_one _ _) (chg_one _ _))) hpi
 rw [byte_no hp]at HPB
 have HC:Hid (Chg (fun _=>False) w0 ((w0.alloc (.cells #[.int .i64 p.lc,.int .i64 p.lp,.int .i64 p.pb] 23)).alloc (.cells Z21 82))):=chg_then (chg_one _ _) (chg_one _ _)
 have HP3:Hid (((w0.alloc (.cells #[.int .i64 p.lc,.int .i64 p.lp,.int .i64 p.pb] 23)).alloc (.cells Z21 82)).heap[w0.heap.size]?=some (.cells #[.int .i64 p.lc,.int .i64 p.lp,.int .i64 p.pb] 23 (0,0))):=lay_alloc.1
 have HZ:Hid (((w0.alloc (.cells #[.int .i64 p.lc,.int .i64 p.lp,.int .i64 p.pb] 23)).alloc (.cells Z21 82)).heap[w0.heap.size+1]?=some (.cells Z21 82 (0,0))):=lay_alloc.2
 obtain⟨y0,y1,y2⟩:=cells3p HP3.out
 unfold Z21 at HZ HP3 HC HPB y0 y1 y2
 clear hT hpi
 unfold prv at HPB
 go_enter Tryz.func31,Tryz.ntmps31
 go_wp2_with fail
 generalize ((w0.alloc (.cells #[.int .i64 p.lc,.int .i64 p.lp,.int .i64 p.pb] 23)).alloc (.cells #[.int .i64 0,.int .i64 0,.int .i64 0,.slice none 0 0,.slice none 0 0,.pointer none,.pointer none,.pointer none,.pointer none,.slice none 0 0,.pointer none,.slice none 0 0,.slice none 0 0,.pointer none,.pointer none,.slice none 0 0,.slice none 0 0,.pointer none,.slice none 0 0,.slice none 0 0,.pointer none] 82))=W0 at*
 refine Calls.mono HPB.out ?_
 rintro z W ⟨rfl,cW⟩
 have hz:W.heap[w0.heap.size+1]?=some (.cells Z21 82 (0,0)):=blk_keep HZ.out cW (fun f=>f)
 have HC:Hid _:=chg_then HC.out cW
 have HTH:Hid _:=there_blk hz (o:=0) (n:=21) (by show 0+21≤21;omega)
 have HBN:Hid ((W.setCells (w0.heap.size+1) 0 Z21.toList).heap[w0.heap.size+1]?=some (.cells Z21 82 (0,0))):=blk_over hz rfl
 have HCN:Hid (Chg (fun _=>False) w0 (W.setCells (w0.heap.size+1) 0 Z21.toList)):=HC.out.trans (chg_cells _ _ _ _) (fun z e=> .inr (by omega))
 clear cW HPB y0 y1 y2 hz HZ HP3 HC
 generalize (byteP p).1=bp
 go_wp2_with (refine wpList_store_mid rfl 82 (.tmp 2) (.tmp 14) rfl (w0.heap.size+1) 0 Z21 rfl rfl HTH.out infoMT z21_one ?_)
 generalize W.setCells (w0.heap.size+1) 0 Z21.toList=WN at*
 go_wp2
 refine bodyPost_ret (results_cell_tmp_row rfl _ _ (w0.heap.size+1) 82 _ (0,0) _ rfl HBN.out Tryz.underlying82 rfl (by kernel_rfl)) rfl ?_
 exact⟨rfl,HCN.out⟩
end Go.Proofs.YthideplpcnhncaaGreatDoor
