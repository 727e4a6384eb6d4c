/- Of no statement by itself: EnG, EnF, Law, Wk, Tm, Ta, Td, Te, Tf, Args, LawE, Ts (without blanks and remarks). -/
import Derived.Test.YthideplpcnhncaaGreatDoorB6EnB
import Derived.Test.YthideplpcnhncaaGreatDoorB0Base
import Derived.Test.YthideplpcnhncaaGreatDoorB4Wb
import Derived.Test.YthideplpcnhncaaGreatDoorB1LastQ
import Derived.Deep.DeepCutAuto
import Derived.BigQuiet
import Derived.Laws.BitsAllLaws
namespace Go.Proofs.YthideplpcnhncaaGreatDoor
open Go.RowKit
set_option linter.unusedVariables false
theorem cells4 {w:World}{a:Nat}{x0 x1 x2 x3:Value}{t:TypeId}(h:w.heap[a]?=some (.cells #[x0,x1,x2,x3] t (0,0))):w.cell? ⟨a,0,none⟩=some x0∧w.cell? ⟨a,1,none⟩=some x1∧w.cell? ⟨a,2,none⟩=some x2∧w.cell? ⟨a,3,none⟩=some x3:=
 ⟨by simp [World.cell?,h],by simp [World.cell?,h],by simp [World.cell?,h],by simp [World.cell?,h]⟩
theorem from_four (w:World)(x0 x1 x2 x3:Value)(t:TypeId):From (w.alloc (.cells #[x0,x1,x2,x3] t)) (some ⟨w.heap.size,0,none⟩) 4 4 1 [x0,x1,x2,x3]:=by
 refine⟨rfl,.inr ⟨_,rfl,fun j u hu=> ?_⟩⟩
 have hb:(w.alloc (.cells #[x0,x1,x2,x3] t)).heap[w.heap.size]?=some (.cells #[x0,x1,x2,x3] t (0,0)):=heap_alloc_last _ _
 obtain⟨q0,q1,q2,q3⟩:=cells4 hb
 match j,hu with
 |0,hu=>simp at hu;subst hu;rw [addk];exact q0
 |1,hu=>simp at hu;subst hu;rw [addk];exact q1
 |2,hu=>simp at hu;subst hu;rw [addk];exact q2
 |3,hu=>simp at hu;subst hu;rw [addk];exact q3
def FourJ (w0 W:World)(n:Nat)(xs:List Value)(b0 b1 b2 b3:Int)(y z:Value):Nat→World→Prop
 |0,w=>Chg (fun _=>False) W w
 |1,w=>Chg (fun _=>False) W w∧ ∃c,y= .slice (some ⟨c,0,none⟩) 4 4∧From w (some ⟨c,0,none⟩) 4 4 1 [Value.int .u8 b0,.int .u8 b1,.int .u8 b2,.int .u8 b3]
 |_,w=>w.ownsRow w0.heap.size 5 1 z (n+4) (xs++[Value.int .u8 b0,.int .u8 b1,.int .u8 b2,.int .u8 b3])∧Chg (fun _=>False) w0 w
theorem four8 (b0 b1 b2 b3:Int): ∀u∈ [Value.int .u8 b0,.int .u8 b1,.int .u8 b2,.int .u8 b3],u.oneCell'=true:=fun u hu=>by
 simp at hu
 rcases hu with rfl|rfl|rfl|rfl<;>rfl
theorem ins_app (k:IntKind)(a b:List Nat):ins k (nums (a++b))=ins k (nums a)++ins k (nums b):=by simp [ins,nums]
theorem dg4 (t:Nat)(ht:t<4294967296)(b0 b1 b2 b3:Int)(h0:b0=((t/16777216:Nat):Int))(h1:b1=((t/65536% 256:Nat):Int))(h2:b2=((t/256% 256:Nat):Int))(h3:b3=((t% 256:Nat):Int)):ins .u8 (nums (Rc.dg 4 t))=[Value.int .u8 b0,.int .u8 b1,.int .u8 b2,.int .u8 b3]:=by
 have e:Rc.dg 4 t=[t/256/256/256% 256,t/256/256% 256,t/256% 256,t% 256]:=by simp [Rc.dg]
 rw [e,h0,h1,h2,h3]
 have e0:t/256/256/256% 256=t/16777216:=by omega
 have e1:t/256/256% 256=t/65536% 256:=by omega
 rw [e0,e1]
 simp [ins,nums]
set_option maxHeartbeats 4000000 in
set_option maxRecDepth 100000 in
theorem digits_any (B a:Nat)(v:Value)(s:List Nat)(d r t R:Nat)(w0:World)(h:En w0 B a v ⟨s,d,r,t⟩ R)(ht:t<4294967296)(hl:s.length+r+5≤140737488355328):
  Calls Tryz.prog 81 #[.pointer (some ⟨a,0,none⟩)] w0 fun e w'=> ∃v',e= .returned v'∧w'.ownsRow w0.heap.size 5 1 v' (s.length+r+5) (ins .u8 (nums (Rc.digs ⟨s,d,r,t⟩)))∧Chg (fun _=>False) w0 w':=by
 obtain⟨i0,hi,hz0,hz1,hz2⟩:=info_parts infoU8
 have HH:Hid (En w0 B a v ⟨s,d,r,t⟩ R):=h
 have hF0:w0.ownsRow B 5 1 v s.length (ins .u8 (nums s)):=h.own
 obtain⟨ad,cap,hv,_⟩:=own_any hF0
 rw [hv]at hF0
 have HF0:Hid (From w0 ad s.length cap 1 (ins .u8 (nums s))):=own_from hF0
 have HV:Hid (v= .slice ad s.length cap):=hv
 have hone:=ins_one .u8 (nums s)
 clear h hF0 hv
 go_enter Tryz.func81,Tryz.ntmps81
 go_wp2_with fail
 refine(losize_any B a v s d r t R _ HH.out (by omega)).mono ?_
 rintro e w1 ⟨rfl,c1⟩
 have HC1:Hid (Chg (fun _=>False) w0 w1):=c1
 have hs1:=c1.size
 clear c1
 go_wp2_with (at_make;refine wpList_make_own _ rfl _ _ 38 rfl w0.heap.size 5 i0 (.int .u8 0) 1 Tryz.underlying38 hi hz0 hz1 .i64 .i64 _ (s.length+r+5) rfl rfl rfl (by rw [hz2];omega) (by unfold maxLen;omega) hs1 ?_)
 intro w2 ho2 hg2
 have c2:Chg (fun _=>False) w0 w2:=HC1.out.grown hg2 (fun k e=>by cases e)
 have k0:w2.cell? ⟨a,0,none⟩=some (.slice ad s.length cap):=by
  have:=(cells5e (HH.out.new c2).blk).1
  rw [HV.out]at this
  exact this
 have hF2:=HF0.out.keep c2
 have HC2:Hid (Chg (fun _=>False) w0 w2):=c2
 have hs2:=c2.size
 clear c2 hg2 HC1
 generalize w1.heap.size=P1 at*
 go_wp2_with (at_builtin;refine wpList_append_moved rfl _ _ 38 rfl w0.heap.size 5 i0 (.int .u8 0) 1 1 Tryz.underlying38 hi hz0 hz1 hz2 rfl (by decide) _ 0 [] rfl ad s.length cap rfl (ins .u8 (nums s)) ho2 hF2 hone (by unfold maxLen;omega) (by omega) hs2 ?_)
 intro v3 w3 ho3 hg3 hm3
 have c3:Chg (fun _=>False) w0 w3:=HC2.out.grown hg3 (fun k e=> .inr (ho2.lt k e).1)
 replace ho3:w3.ownsRow w0.heap.size 5 1 v3 s.length (ins .u8 (nums s)):=by simpa using ho3
 have HC3:Hid (Chg (fun _=>False) w0 w3):=c3
 have k1:w3.cell? ⟨a,1,none⟩=some (.int .u8 (d:Int)):=(cells5e (HH.out.new c3).blk).2.1
 obtain⟨ad3,cap3,hv3,_⟩:=own_any ho3
 subst hv3
 have c3a:=chg_one w3 (.cells #[.int .u8 (d:Int)] 5)
 have o3:=ho3.alloc (.cells #[.int .u8 (d:Int)] 5)
 have hfr3:=from_one8 w3 (.int .u8 (d:Int)) 5
 have hone3:=one8e d
 have hs3:w0.heap.size≤(w3.alloc (.cells #[.int .u8 (d:Int)] 5)).heap.size:=Nat.le_trans c3.size c3a.size
 clear c3 hg3 hm3 HC2 k0 hF2 ho2 hs2 hone
 go_wp2_with (at_builtin;refine wpList_append_moved rfl _ _ 38 rfl w0.heap.size 5 i0 (.int .u8 0) 1 1 Tryz.underlying38 hi hz0 hz1 hz2 rfl (by decide) _ s.length (ins .u8 (nums s)) rfl (some ⟨w3.heap.size,0,none⟩) 1 1 rfl [.int .u8 (d:Int)] o3 hfr3 hone3 (by unfold maxLen;omega) (by omega) hs3 ?_)
 intro v4 w4 ho4 hg4 hm4
 have c4:Chg (fun _=>False) w0 w4:=(chg_then HC3.out c3a).grown hg4 (fun k e=> .inr (o3.lt k e).1)
 have HC4:Hid (Chg (fun _=>False) w0 w4):=c4
 have k2:w4.cell? ⟨a,2,none⟩=some (.int .i64 (r:Int)):=(cells5e (HH.out.new c4).blk).2.2.1
 obtain⟨ad4,cap4,hv4,_⟩:=own_any ho4
 subst hv4
 have HO4:Hid (w4.ownsRow w0.heap.size 5 1 (.slice ad4 (s.length+1) cap4) (s.length+1+0) (ins .u8 (nums (s++d::List.replicate 0 255)))):=by
  show World.ownsRow _ _ _ _ _ _ _
  rw [ins_app]
  exact ho4
 clear c4 hg4 hm4 HC3 ho4 o3 hfr3 hone3 hs3 c3a ho3 k1
 go_wp2_with fail
 go_loopw [3,24] (fun bv iv wr=> ∃j:Nat,j≤r∧iv= .int .i64 (j:Int)∧wr.ownsRow w0.heap.size 5 1 bv (s.length+1+j) (ins .u8 (nums (s++d::List.replicate j 255)))∧Chg (fun _=>False) w0 wr) (fun _ iv _=>r-(intOf iv).toNat)
 case atStart=>exact⟨0,Nat.zero_le _,rfl,HO4.out,HC4.out⟩
 case round=>
  clear HO4 HC4 k2
  obtain⟨j,hj,rfl,ho,hc⟩:=hrel
  obtain⟨ad5,cap5,hv5,_⟩:=own_any ho
  subst hv5
  by_cases hjr:j<r
  ·have c5:=chg_one wr (.cells #[.int .u8 255] 5)
   have o5:=ho.alloc (.cells #[.int .u8 255] 5)
   have hfr:=from_one8 wr (.int .u8 255) 5
   have hone5: ∀u∈ [Value.int .u8 255],u.oneCell'=true:=one8e 255
   have hsz:w0.heap.size≤(wr.alloc (.cells #[.int .u8 255] 5)).heap.size:=Nat.le_trans hc.size c5.size
   have HC5:Hid (Chg (fun _=>False) w0 (wr.alloc (.cells #[.int .u8 255] 5))):=chg_then hc c5
   clear c5 hc ho
   go_wp2_with (at_builtin;refine wpList_append_moved rfl _ _ 38 rfl w0.heap.size 5 i0 (.int .u8 0) 1 1 Tryz.underlying38 hi hz0 hz1 hz2 rfl (by decide) _ (s.length+1+j) (ins .u8 (nums (s++d::List.replicate j 255))) rfl (some ⟨wr.heap.size,0,none⟩) 1 1 rfl [.int .u8 255] o5 hfr hone5 (by unfold maxLen;omega) (by omega) hsz ?_)
   intro v6 w6 ho6 hg6 hm6
   have HC6:Hid (Chg (fun _=>False) w0 w6):=HC5.out.grown hg6 (fun k e=> .inr (o5.lt k e).1)
   have HO6:Hid (w6.ownsRow w0.heap.size 5 1 v6 (s.length+1+(j+1)) (ins .u8 (nums (s++d::List.replicate (j+1) 255)))):=by
    show World.ownsRow _ _ _ _ _ _ _
    have e:s++d::List.replicate (j+1) 255=(s++d::List.replicate j 255)++[255]:=by rw [List.replicate_succ'];simp
    rw [e,ins_app]
    exact ho6
   obtain⟨ad6,cap6,hv6,_⟩:=own_any ho6
   subst hv6
   clear ho6 hg6 hm6 o5 hfr hone5 hsz HC5
   go_wp2
   go_roundw
   case rel=>exact⟨j+1,by omega,by go_num,HO6.out,HC6.out⟩
   case measure=>simp [intOf];omega
  ·obtain rfl:j=r:=by omega
   obtain⟨n6,hn6⟩: ∃n6,n6=s.length+1+j:=⟨_,rfl⟩
   obtain⟨xs6,hx6⟩: ∃xs6,xs6=ins .u8 (nums (s++d::List.replicate j 255)):=⟨_,rfl⟩
   obtain⟨b0,hb0⟩: ∃y:Int,(t:Int)/16777216=y:=⟨_,rfl⟩
   have b01:0≤b0:=by omega
   have b02:b0<256:=by omega
   obtain⟨y1,hy1⟩: ∃y:Int,(t:Int)/65536=y:=⟨_,rfl⟩
   obtain⟨y2,hy2⟩: ∃y:Int,(t:Int)/256=y:=⟨_,rfl⟩
   obtain⟨b1,hb1⟩: ∃y:Int,y1% 256=y:=⟨_,rfl⟩
   obtain⟨b2,hb2⟩: ∃y:Int,y2% 256=y:=⟨_,rfl⟩
   obtain⟨b3,hb3⟩: ∃y:Int,(t:Int)% 256=y:=⟨_,rfl⟩
   have hw0:IntKind.u8.wrap b0=b0:=by simp [IntKind.wrap,IntKind.signed,IntKind.bits];omega
   have hw1:IntKind.u8.wrap y1=b1:=by simp [IntKind.wrap,IntKind.signed,IntKind.bits];omega
   have hw2:IntKind.u8.wrap y2=b2:=by simp [IntKind.wrap,IntKind.signed,IntKind.bits];omega
   have hw3:IntKind.u8.wrap (t:Int)=b3:=by simp [IntKind.wrap,IntKind.signed,IntKind.bits];omega
   have HD:Hid (ins .u8 (nums (Rc.dg 4 t))=[Value.int .u8 b0,.int .u8 b1,.int .u8 b2,.int .u8 b3]):=dg4 t ht b0 b1 b2 b3 (by omega) (by omega) (by omega) (by omega)
   have HLEN:Hid (n6+4≤140737488355328):=by show n6+4≤_;omega
   have HONE4:Hid (∀u∈ [Value.int .u8 b0,.int .u8 b1,.int .u8 b2,.int .u8 b3],u.oneCell'=true):=four8 b0 b1 b2 b3
   have K30:Hid (w0.cell? ⟨a,3,none⟩=some (.int .u32 (t:Int))):=(cells5e HH.out.blk).2.2.2.1
   have k36:=cell_chg K30.out hc
   rw [←hn6,←hx6]at ho
   have HO6:Hid (wr.ownsRow w0.heap.size 5 1 (.slice ad5 n6 cap5) n6 xs6):=ho
   have HC6:Hid (Chg (fun _=>False) w0 wr):=hc
   have HSZ:Hid (w0.heap.size≤wr.heap.size):=hc.size
   have HX6:Hid (xs6++[Value.int .u8 b0,.int .u8 b1,.int .u8 b2,.int .u8 b3]=ins .u8 (nums (Rc.digs ⟨s,d,j,t⟩))∧n6+4=s.length+j+5):=by
    refine⟨?_,by omega⟩
    have e:Rc.digs ⟨s,d,j,t⟩=(s++d::List.replicate j 255)++Rc.dg 4 t:=by simp [Rc.digs]
    rw [e,ins_app,HD.out,hx6]
   clear ho hc hx6 HH
   rw [←hn6]
   clear hn6
   have hdj:decide ((j:Int)<(j:Int))=false:=by simp
   go_wp2_with fail
   generalize wr=W6 at*
   refine wp_region_phase (mk:=fun u=> #[_,_,_,_,_,_,_,_,_,_,_,_,_,_,_,_,_,_,_,_,_,_,_,_,_,_,_,_,_,_,u 30,u 31,u 32,u 33,u 34,u 35,u 36,u 37,u 38,u 39,u 40,u 41,u 42,u 43,u 44,u 45,u 46,u 47,u 48,u 49,u 50,u 51,u 52,u 53,u 54,u 55]) (G:=lookG [(30,.slice ad5 n6 cap5),(31,.pointer (some ⟨a,0,none⟩)),(32,.pointer (some ⟨a,0,none⟩)),(33,.pointer (some ⟨a,3,none⟩)),(34,.int .u32 (t:Int)),(35,.int .u32 b0),(36,.int .u8 b0),(37,.pointer (some ⟨a,0,none⟩)),(38,.pointer (some ⟨a,0,none⟩)),(39,.pointer (some ⟨a,3,none⟩)),(40,.int .u32 (t:Int)),(41,.int .u32 y1),(42,.int .u8 b1),(43,.pointer (some ⟨a,0,none⟩)),(44,.pointer (some ⟨a,0,none⟩)),(45,.pointer (some ⟨a,3,none⟩)),(46,.int .u32 (t:Int)),(47,.int .u32 y2),(48,.int .u8 b2),(49,.pointer (some ⟨a,0,none⟩)),(50,.pointer (some ⟨a,0,none⟩)),(51,.pointer (some ⟨a,3,none⟩)),(52,.int .u32 (t:Int)),(53,.int .u8 b3)]) (J:=fun q u w=>w.cell? ⟨a,3,none⟩=some (.int .u32 (t:Int))∧FourJ w0 W6 n6 xs6 b0 b1 b2 b3 (u 54) (u 55) q w) [24,25] (fun _=>undef) rfl (by kernel_rfl) 26 _ rfl rfl (by kernel_rfl) (by kernel_rfl) (by kernel_rfl) (by decide) ?_ ?_ ?_ ?_ ?_
   ·repeat (refine⟨⟨_,rfl,fun _ _=>rfl⟩,?_⟩)
    exact trivial
   ·intro q u u2 w h hj
    have e1:u 54=u2 54:=h 24 (by decide)
    have e2:u 55=u2 55:=h 25 (by decide)
    show _∧FourJ w0 W6 n6 xs6 b0 b1 b2 b3 (u2 54) (u2 55) q w
    rw [←e1,←e2]
    exact hj
   ·exact⟨cell_chg k36 (Chg.refl _ W6).drew,(Chg.refl _ W6).drew⟩
   ·refine⟨?_,?_,?_,?_,?_,?_,?_,?_,?_,?_,?_,?_,?_,?_,?_,?_,?_,?_,?_,?_,?_,?_,?_,?_,?_,?_,trivial⟩
    ·show StepR _ _ _ _ _ _ _
     unfold StepR
     intro q u w hj hd K hK
     clear hd
     go_simp
     exact hK.out (.slice ad5 n6 cap5) rfl
    ·show StepR _ _ _ _ _ _ _
     unfold StepR
     intro q u w hj hd K hK
     clear hd
     go_simp
     exact hK.out (.pointer (some ⟨a,0,none⟩)) rfl
    ·show StepR _ _ _ _ _ _ _
     unfold StepR
     intro q u w hj hd K hK
     have h31:u 31= .pointer (some ⟨a,0,none⟩):=hd.get 1 (by kernel_rfl)
     clear hd
     simp only [h31]at hK
     go_simp
     exact hK.out (.pointer (some ⟨a,0,none⟩)) rfl
    ·show StepR _ _ _ _ _ _ _
     unfold StepR
     intro q u w hj hd K hK
     have h32:u 32= .pointer (some ⟨a,0,none⟩):=hd.get 2 (by kernel_rfl)
     clear hd
     simp only [h32]at hK
     go_simp
     exact hK.out (.pointer (some ⟨a,3,none⟩)) rfl
    ·show StepR _ _ _ _ _ _ _
     unfold StepR
     intro q u w hj hd K hK
     have h33:u 33= .pointer (some ⟨a,3,none⟩):=hd.get 3 (by kernel_rfl)
     clear hd
     simp only [h33]at hK
     have hcell:=hj.1
     go_simp
     exact hK.out _ rfl
    ·show StepR _ _ _ _ _ _ _
     unfold StepR
     intro q u w hj hd K hK
     have h34:u 34= .int .u32 (t:Int):=hd.get 4 (by kernel_rfl)
     clear hd
     simp only [h34]at hK
     go_simp
     exact hK.out (.int .u32 b0) rfl
    ·show StepR _ _ _ _ _ _ _
     unfold StepR
     intro q u w hj hd K hK
     have h35:u 35= .int .u32 b0:=hd.get 5 (by kernel_rfl)
     clear hd
     simp only [h35]at hK
     go_simp
     first|exact hK.out (.int .u8 b0) rfl|(rw [hw0];exact hK.out (.int .u8 b0) rfl)
    ·show StepR _ _ _ _ _ _ _
     unfold StepR
     intro q u w hj hd K hK
     clear hd
     go_simp
     exact hK.out (.pointer (some ⟨a,0,none⟩)) rfl
    ·show StepR _ _ _ _ _ _ _
     unfold StepR
     intro q u w hj hd K hK
     have h37:u 37= .pointer (some ⟨a,0,none⟩):=hd.get 7 (by kernel_rfl)
     clear hd
     simp only [h37]at hK
     go_simp
     exact hK.out (.pointer (some ⟨a,0,none⟩)) rfl
    ·show StepR _ _ _ _ _ _ _
     unfold StepR
     intro q u w hj hd K hK
     have h38:u 38= .pointer (some ⟨a,0,none⟩):=hd.get 8 (by kernel_rfl)
     clear hd
     simp only [h38]at hK
     go_simp
     exact hK.out (.pointer (some ⟨a,3,none⟩)) rfl
    ·show StepR _ _ _ _ _ _ _
     unfold StepR
     intro q u w hj hd K hK
     have h39:u 39= .pointer (some ⟨a,3,none⟩):=hd.get 9 (by kernel_rfl)
     clear hd
     simp only [h39]at hK
     have hcell:=hj.1
     go_simp
     exact hK.out _ rfl
    ·show StepR _ _ _ _ _ _ _
     unfold StepR
     intro q u w hj hd K hK
     have h40:u 40= .int .u32 (t:Int):=hd.get 10 (by kernel_rfl)
     clear hd
     simp only [h40]at hK
     go_simp
     exact hK.out (.int .u32 y1) rfl
    ·show StepR _ _ _ _ _ _ _
     unfold StepR
     intro q u w hj hd K hK
     have h41:u 41= .int .u32 y1:=hd.get 11 (by kernel_rfl)
     clear hd
     simp only [h41]at hK
     go_simp
     first|exact hK.out (.int .u8 b1) rfl|(rw [hw1];exact hK.out (.int .u8 b1) rfl)
    ·show StepR _ _ _ _ _ _ _
     unfold StepR
     intro q u w hj hd K hK
     clear hd
     go_simp
     exact hK.out (.pointer (some ⟨a,0,none⟩)) rfl
    ·show StepR _ _ _ _ _ _ _
     unfold StepR
     intro q u w hj hd K hK
     have h43:u 43= .pointer (some ⟨a,0,none⟩):=hd.get 13 (by kernel_rfl)
     clear hd
     simp only [h43]at hK
     go_simp
     exact hK.out (.pointer (some ⟨a,0,none⟩)) rfl
    ·show StepR _ _ _ _ _ _ _
     unfold StepR
     intro q u w hj hd K hK
     have h44:u 44= .pointer (some ⟨a,0,none⟩):=hd.get 14 (by kernel_rfl)
     clear hd
     simp only [h44]at hK
     go_simp
     exact hK.out (.pointer (some ⟨a,3,none⟩)) rfl
    ·show StepR _ _ _ _ _ _ _
     unfold StepR
     intro q u w hj hd K hK
     have h45:u 45= .pointer (some ⟨a,3,none⟩):=hd.get 15 (by kernel_rfl)
     clear hd
     simp only [h45]at hK
     have hcell:=hj.1
     go_simp
     exact hK.out _ rfl
    ·show StepR _ _ _ _ _ _ _
     unfold StepR
     intro q u w hj hd K hK
     have h46:u 46= .int .u32 (t:Int):=hd.get 16 (by kernel_rfl)
     clear hd
     simp only [h46]at hK
     go_simp
     exact hK.out (.int .u32 y2) rfl
    ·show StepR _ _ _ _ _ _ _
     unfold StepR
     intro q u w hj hd K hK
     have h47:u 47= .int .u32 y2:=hd.get 17 (by kernel_rfl)
     clear hd
     simp only [h47]at hK
     go_simp
     first|exact hK.out (.int .u8 b2) rfl|(rw [hw2];exact hK.out (.int .u8 b2) rfl)
    ·show StepR _ _ _ _ _ _ _
     unfold StepR
     intro q u w hj hd K hK
     clear hd
     go_simp
     exact hK.out (.pointer (some ⟨a,0,none⟩)) rfl
    ·show StepR _ _ _ _ _ _ _
     unfold StepR
     intro q u w hj hd K hK
     have h49:u 49= .pointer (some ⟨a,0,none⟩):=hd.get 19 (by kernel_rfl)
     clear hd
     simp only [h49]at hK
     go_simp
     exact hK.out (.pointer (some ⟨a,0,none⟩)) rfl
    ·show StepR _ _ _ _ _ _ _
     unfold StepR
     intro q u w hj hd K hK
     have h50:u 50= .pointer (some ⟨a,0,none⟩):=hd.get 20 (by kernel_rfl)
     clear hd
     simp only [h50]at hK
     go_simp
     exact hK.out (.pointer (some ⟨a,3,none⟩)) rfl
    ·show StepR _ _ _ _ _ _ _
     unfold StepR
     intro q u w hj hd K hK
     have h51:u 51= .pointer (some ⟨a,3,none⟩):=hd.get 21 (by kernel_rfl)
     clear hd
     simp only [h51]at hK
     have hcell:=hj.1
     go_simp
     exact hK.out _ rfl
    ·show StepR _ _ _ _ _ _ _
     unfold StepR
     intro q u w hj hd K hK
     have h52:u 52= .int .u32 (t:Int):=hd.get 22 (by kernel_rfl)
     clear hd
     simp only [h52]at hK
     go_simp
     first|exact hK.out (.int .u8 b3) rfl|(rw [hw3];exact hK.out (.int .u8 b3) rfl)
    ·show StepW _ _ _ _ _ _ 0 _
     unfold StepW
     intro u w hj hd K hK
     have h36:u 36= .int .u8 b0:=hd.get 6 (by kernel_rfl)
     have h42:u 42= .int .u8 b1:=hd.get 12 (by kernel_rfl)
     have h48:u 48= .int .u8 b2:=hd.get 18 (by kernel_rfl)
     have h53:u 53= .int .u8 b3:=hd.get 23 (by kernel_rfl)
     clear hd
     simp only [h36,h42,h48,h53]at hK
     obtain⟨j3,hc⟩:=hj
     go_simp
     have c2:=chg_one w (.cells #[.int .u8 b0,.int .u8 b1,.int .u8 b2,.int .u8 b3] 5)
     exact hK.out _ _ ⟨cell_chg j3 c2,chg_then hc c2,_,rfl,from_four w (.int .u8 b0) (.int .u8 b1) (.int .u8 b2) (.int .u8 b3) 5⟩ trivial
    ·show StepW _ _ _ _ _ _ 1 _
     unfold StepW
     intro u w hj hd K hK
     have h30:u 30= .slice ad5 n6 cap5:=hd.get 0 (by kernel_rfl)
     clear hd
     obtain⟨j3,hc,c,hq,hf⟩:=hj
     refine step_append_moved (a:=⟨_,[]⟩) (by rfl) (.tmp 30) (.tmp 54) 38 (by rfl) w0.heap.size 5 i0 (.int .u8 0) 1 1 Tryz.underlying38 hi hz0 hz1 hz2 rfl (by decide) (.slice ad5 n6 cap5) n6 xs6 (by exact h30) (some ⟨c,0,none⟩) 4 4 (by exact hq) [Value.int .u8 b0,.int .u8 b1,.int .u8 b2,.int .u8 b3] (ownsRow_keep HO6.out hc (fun _ _ f=>f)) hf HONE4.out (by have:=HLEN.out;unfold maxLen;omega) (by have:=HLEN.out;omega) (by have:=hc.size;have:=HSZ.out;omega) ?_
     intro v2 w2 ho hg hm
     have c3:Chg (fun _=>False) w0 w2:=(chg_then HC6.out hc).grown hg (fun k e=> .inr (HO6.out.lt k e).1)
     exact hK.out v2 w2 ⟨cell_chg K30.out c3,ho,c3⟩ trivial
   ·intro u w hj hA K hK
    have e55:u 55=u 55:=rfl
    clear hA e55
    obtain⟨_,ho,hc⟩:=hj
    obtain⟨ad7,cap7,e55,_⟩:=own_any ho
    rw [e55]at ho
    rw [HX6.out.1,HX6.out.2]at ho
    have HO7:Hid (w.ownsRow w0.heap.size 5 1 (.slice ad7 (n6+4) cap7) (s.length+j+5) (ins .u8 (nums (Rc.digs ⟨s,d,j,t⟩)))):=by rw [←HX6.out.2]at ho⊢;exact ho
    have HC7:Hid (Chg (fun _=>False) w0 w):=hc
    clear ho hc
    go_simp
    refine hK.out _ _ ?_
    go_simp
    go_wp2
    go_ret
    exact⟨_,rfl,HO7.out,HC7.out⟩
theorem bytes_any (B a:Nat)(v:Value)(e:Rc.E)(w:World)(h:Enc w B a v e)(hk:e.k+5≤140737488355328):
  Calls Tryz.prog 39 #[.pointer (some ⟨a,0,none⟩)] w fun x w'=> ∃v',x= .returned v'∧w'.ownsRow w.heap.size 5 1 v' (e.k+5) (ins .u8 (nums (Rc.by_ e)))∧Chg (fun _=>False) w w':=by
 obtain⟨l,hE,hI⟩:=h
 have hlen:=hI.len
 have hd:=Rc.digs_is hI
 go_enter Tryz.func39,Tryz.ntmps39
 go_wp2_with fail
 refine(digits_any B a v l.s l.h l.r l.t e.R _ hE hI.ht (by omega)).mono ?_
 rintro x w1 ⟨v',rfl,ho,c1⟩
 have ho2:w1.ownsRow w.heap.size 5 1 v' (e.k+5) (ins .u8 (nums (Rc.by_ e))):=by rw [←hlen,←hd];exact ho
 obtain⟨ad,cap,rfl,_⟩:=own_any ho2
 have HO:Hid (w1.ownsRow w.heap.size 5 1 (.slice ad (e.k+5) cap) (e.k+5) (ins .u8 (nums (Rc.by_ e)))):=ho2
 clear hE hI ho ho2 hd
 go_wp2
 go_ret
 exact⟨_,rfl,HO.out,c1⟩
end Go.Proofs.YthideplpcnhncaaGreatDoor
namespace Go.Proofs.YthideplpcnhncaaGreatDoor
open Go.RowKit
set_option linter.unusedVariables false
theorem eq_nil8_some (x:Addr)(n c:Nat)(w:World):(binOp .eql 38 (.slice (some x) n c) (.slice none 0 0)).run Tryz.prog w= .ok (.bool false) w:=by kernel_rfl
theorem eq_nil8_none (w:World):(binOp .eql 38 (.slice none 0 0) (.slice none 0 0)).run Tryz.prog w= .ok (.bool true) w:=by kernel_rfl
set_option maxHeartbeats 1000000 in
set_option maxRecDepth 100000 in
theorem clone8_any (B:Nat)(v:Value)(xs:List Int)(w:World)(h:w.ownsRow B 5 1 v xs.length (ins .u8 xs))(hn:xs.length≤140737488355328):
  Calls Tryz.prog 131 #[v] w fun e w'=> ∃v',e= .returned v'∧w'.ownsRow w.heap.size 5 1 v' xs.length (ins .u8 xs)∧Chg (fun _=>False) w w':=by
 obtain⟨i0,hi,hz0,hz1,hz2⟩:=info_parts infoU8
 have hone:=ins_one .u8 xs
 rcases h.2 with⟨rfl,e0⟩|⟨g,cap,cur,rfl,_⟩
 ·have hx:xs=[]:=List.eq_nil_of_length_eq_zero e0
  subst hx
  have heq:=eq_nil8_none w
  go_enter Tryz.func131,Tryz.ntmps131
  go_wp2
  go_ret
  exact⟨_,rfl,World.ownsRow_nil _ _ _ _,Chg.refl _ _⟩
 ·have hF:=own_from h
  have c1:=chg_one w (.cells #[] 5)
  have hF1:=hF.keep c1
  have hE:=own_empty w 5
  have hs:w.heap.size≤(w.alloc (.cells #[] 5)).heap.size:=c1.size
  have heq:=eq_nil8_some ⟨g,0,none⟩ xs.length cap w
  clear h hF
  go_enter Tryz.func131,Tryz.ntmps131
  go_wp2_with (at_builtin;refine wpList_append_moved rfl _ _ 38 rfl w.heap.size 5 i0 (.int .u8 0) 1 1 Tryz.underlying38 hi hz0 hz1 hz2 rfl (by decide) _ 0 [] rfl (some ⟨g,0,none⟩) xs.length cap rfl (ins .u8 xs) hE hF1 hone (by unfold maxLen;omega) (by omega) hs ?_)
  intro v2 w2 ho hg hm
  have HC:Hid (Chg (fun _=>False) w w2):=c1.grown hg (fun k e=> .inr (hE.lt k e).1)
  have HO:Hid (w2.ownsRow w.heap.size 5 1 v2 xs.length (ins .u8 xs)):=by
   show World.ownsRow _ _ _ _ _ _ _
   simpa using ho
  clear ho hg hm hE hF1 c1
  go_wp2
  go_ret
  exact⟨_,rfl,HO.out,HC.out⟩
set_option maxHeartbeats 1000000 in
set_option maxRecDepth 100000 in
theorem lofork_any (B a:Nat)(v:Value)(s:List Nat)(d r t R:Nat)(w:World)(h:En w B a v ⟨s,d,r,t⟩ R)(hl:s.length≤140737488355328):
  Calls Tryz.prog 84 #[.pointer (some ⟨a,0,none⟩)] w fun e w'=> ∃v',e= .returned (.agg #[v',.int .u8 (d:Int),.int .i64 (r:Int),.int .u32 (t:Int)])∧w'.ownsRow w.heap.size 5 1 v' s.length (ins .u8 (nums s))∧Chg (fun _=>False) w w':=by
 obtain⟨ad,cap,hv,_⟩:=own_any h.own
 have hv2:v= .slice ad s.length cap:=hv
 obtain⟨k0,k1,k2,k3,_,_⟩:=cells5e h.blk
 rw [hv2]at k0
 have HH:Hid (En w B a v ⟨s,d,r,t⟩ R):=h
 have HV:Hid (v= .slice ad s.length cap):=hv2
 have c1:=chg_one w (.cells #[.slice none 0 0,.int .u8 0,.int .i64 0,.int .u32 0] 139)
 have q0:=cell_chg k0 c1
 have q1:=cell_chg k1 c1
 have q2:=cell_chg k2 c1
 have q3:=cell_chg k3 c1
 have c2:=chg_one (w.alloc (.cells #[.slice none 0 0,.int .u8 0,.int .i64 0,.int .u32 0] 139)) (.cells #[.slice ad s.length cap,.int .u8 (d:Int),.int .i64 (r:Int),.int .u32 (t:Int)] 139)
 have p0:=cell_chg q0 c2
 have HC2:Hid (Chg (fun _=>False) w ((w.alloc (.cells #[.slice none 0 0,.int .u8 0,.int .i64 0,.int .u32 0] 139)).alloc (.cells #[.slice ad s.length cap,.int .u8 (d:Int),.int .i64 (r:Int),.int .u32 (t:Int)] 139))):=chg_then c1 c2
 have HF0:Hid (((w.alloc (.cells #[.slice none 0 0,.int .u8 0,.int .i64 0,.int .u32 0] 139)).alloc (.cells #[.slice ad s.length cap,.int .u8 (d:Int),.int .i64 (r:Int),.int .u32 (t:Int)] 139)).heap[w.heap.size]?=some (.cells #[.slice none 0 0,.int .u8 0,.int .i64 0,.int .u32 0] 139 (0,0))):=blk_keep (heap_alloc_last w _) c2 (fun f=>f)
 have hsz:(w.alloc (.cells #[.slice none 0 0,.int .u8 0,.int .i64 0,.int .u32 0] 139)).heap.size=w.heap.size+1:=World.size_alloc _ _
 have HF1:Hid (((w.alloc (.cells #[.slice none 0 0,.int .u8 0,.int .i64 0,.int .u32 0] 139)).alloc (.cells #[.slice ad s.length cap,.int .u8 (d:Int),.int .i64 (r:Int),.int .u32 (t:Int)] 139)).heap[w.heap.size+1]?=some (.cells #[.slice ad s.length cap,.int .u8 (d:Int),.int .i64 (r:Int),.int .u32 (t:Int)] 139 (0,0))):=by
  have h5:=heap_alloc_last (w.alloc (.cells #[.slice none 0 0,.int .u8 0,.int .i64 0,.int .u32 0] 139)) (.cells #[.slice ad s.length cap,.int .u8 (d:Int),.int .i64 (r:Int),.int .u32 (t:Int)] 139)
  rw [hsz]at h5
  exact h5
 clear h hv hv2 k0 k1 k2 k3 c1 c2 hsz
 go_enter Tryz.func84,Tryz.ntmps84
 go_wp2_with fail
 have hE2:=HH.out.new HC2.out
 have hown2:=hE2.own
 rw [HV.out]at hown2
 have hl2:(nums s).length≤140737488355328:=by rw [nums_len];exact hl
 refine(clone8_any B _ (nums s) _ (by rw [nums_len];exact hown2) hl2).mono ?_
 rintro e w3 ⟨v3,rfl,ho3,c3⟩
 rw [nums_len]at ho3
 have C3:=chg_then HC2.out c3
 have b0:=blk_keep HF0.out c3 (fun f=>f)
 have b1:=blk_keep HF1.out c3 (fun f=>f)
 have HO3:Hid (w3.ownsRow w.heap.size 5 1 v3 s.length (ins .u8 (nums s))):=owns_base ho3 HC2.out.size
 have HO3b:Hid (∀g,v3.ownBlock=some g→w.heap.size+2≤g):=fun g e=>by
  have h6:=(ho3.lt g e).1
  rw [World.size_alloc,World.size_alloc]at h6
  omega
 obtain⟨ad3,cap3,rfl,_⟩:=own_any ho3
 have HC3:Hid (Chg (fun _=>False) w w3):=C3
 obtain⟨x0,x1,x2,x3⟩:=cells4 b0
 obtain⟨y0,y1,y2,y3⟩:=cells4 b1
 have z0: ∀j,w3.frozen? ⟨w.heap.size,j,none⟩=false:=fun j=>by simp [World.frozen?,b0]
 have z1: ∀j,w3.frozen? ⟨w.heap.size+1,j,none⟩=false:=fun j=>by simp [World.frozen?,b1]
 have g0:=z0 0
 have g1:=z0 1
 have g2:=z0 2
 have g3:=z0 3
 have g4:=z1 0
 have HB0:Hid (w3.heap[w.heap.size]?=some (.cells #[.slice none 0 0,.int .u8 0,.int .i64 0,.int .u32 0] 139 (0,0))):=b0
 have HFW:Hid (∃F,F=w.heap.size):=⟨_,rfl⟩
 obtain⟨F,hF⟩:=HFW.out
 have HF:Hid (F=w.heap.size):=hF
 clear hE2 hown2 ho3 c3 C3 b0 b1 q0 q1 q2 q3 p0 HF0 HF1 HH HV HC2 z0 z1 HFW
 rw [←hF]at x0 x1 x2 x3 y0 y1 y2 y3 g0 g1 g2 g3 g4⊢
 clear hF
 have hne1:F≠F+1:=by omega
 have hne2:F+1≠F:=by omega
 go_wp2
 obtain⟨W,hW⟩: ∃W,W=(((((w3.setCell ⟨F+1,0,none⟩ (.slice ad3 s.length cap3)).setCell ⟨F,0,none⟩ (.slice ad3 s.length cap3)).setCell ⟨F,1,none⟩ (.int .u8 (d:Int))).setCell ⟨F,2,none⟩ (.int .i64 (r:Int))).setCell ⟨F,3,none⟩ (.int .u32 (t:Int))):=⟨_,rfl⟩
 have HW:Hid (W.heap[F]?=some (.cells #[.slice ad3 s.length cap3,.int .u8 (d:Int),.int .i64 (r:Int),.int .u32 (t:Int)] 139 (0,0))∧Chg (fun z=>z=F∨z=F+1) w3 W):=by
  have hb:=HB0.out
  rw [←HF.out]at hb
  have c4:Chg (fun z=>z=F∨z=F+1) w3 (w3.setCell ⟨F+1,0,none⟩ (.slice ad3 s.length cap3)):=(Chg.refl (fun z=>z=F∨z=F+1) w3).setCell (p:=⟨F+1,0,none⟩) (.inl (.inr rfl)) _
  have c4':Chg (fun z=>z=F+1) w3 (w3.setCell ⟨F+1,0,none⟩ (.slice ad3 s.length cap3)):=(Chg.refl (fun z=>z=F+1) w3).setCell (p:=⟨F+1,0,none⟩) (.inl rfl) _
  have d1:=blk_keep hb c4' (by omega)
  have d2:=blk_setk (l:=[.slice none 0 0,.int .u8 0,.int .i64 0,.int .u32 0]) d1 0 (.slice ad3 s.length cap3)
  have d3:=blk_setk (l:=[.slice ad3 s.length cap3,.int .u8 0,.int .i64 0,.int .u32 0]) d2 1 (.int .u8 (d:Int))
  have d4:=blk_setk (l:=[.slice ad3 s.length cap3,.int .u8 (d:Int),.int .i64 0,.int .u32 0]) d3 2 (.int .i64 (r:Int))
  have d5:=blk_setk (l:=[.slice ad3 s.length cap3,.int .u8 (d:Int),.int .i64 (r:Int),.int .u32 0]) d4 3 (.int .u32 (t:Int))
  rw [hW]
  exact⟨d5,(((c4.setCell (p:=⟨F,0,none⟩) (.inl (.inl rfl)) _).setCell (p:=⟨F,1,none⟩) (.inl (.inl rfl)) _).setCell (p:=⟨F,2,none⟩) (.inl (.inl rfl)) _).setCell (p:=⟨F,3,none⟩) (.inl (.inl rfl)) _⟩
 rw [←hW]
 clear hW
 refine bodyPost_ret (results_cell_row rfl _ _ F 139 _ (0,0) _ rfl HW.out.1 Tryz.underlying139 rfl (by kernel_rfl)) rfl ?_
 have hF:=HF.out
 refine⟨_,rfl,?_,HC3.out.trans HW.out.2 (fun z e=> .inr (by omega))⟩
 exact ownsRow_keep HO3.out HW.out.2 (fun g e=>by have:=HO3b.out g e;omega)
set_option maxHeartbeats 1000000 in
set_option maxRecDepth 100000 in
theorem efork_any (B a:Nat)(v:Value)(e:Rc.E)(w0:World)(h:Enc w0 B a v e)(hk:e.k≤140737488355328):
  Calls Tryz.prog 41 #[.pointer (some ⟨a,0,none⟩)] w0 fun x w'=> ∃a' v',x= .returned (.pointer (some ⟨a',0,none⟩))∧w0.heap.size≤a'∧Enc w' w0.heap.size a' v' e∧Chg (fun _=>False) w0 w':=by
 obtain⟨l,hE,hI⟩:=h
 obtain⟨s,d,r,t⟩:=l
 have hlen:s.length+r=e.k:=hI.len
 have k4:=(cells5e hE.blk).2.2.2.2.1
 have HE:Hid (En w0 B a v ⟨s,d,r,t⟩ e.R):=hE
 have HI:Hid (Rc.Is ⟨s,d,r,t⟩ e):=hI
 have hl:s.length≤140737488355328:=by omega
 clear hE hI
 go_enter Tryz.func41,Tryz.ntmps41
 go_wp2_with fail
 refine wp_region_last (mk:=fun u=> #[_,_,_,u 3,u 4,u 5,u 6,u 7,u 8,u 9,u 10,u 11,u 12]) (F:=fun slot vv ww=>(look [(3,.val (.pointer (some ⟨a,0,none⟩))),(4,.val (.pointer (some ⟨a,0,none⟩))),(5,.val (.pointer (some ⟨a,0,none⟩))),(6,.is (fun q wq=> ∃ad cap,q= .agg #[.slice ad s.length cap,.int .u8 (d:Int),.int .i64 (r:Int),.int .u32 (t:Int)]∧wq.ownsRow w0.heap.size 5 1 (.slice ad s.length cap) s.length (ins .u8 (nums s)))),(7,.val (.pointer (some ⟨a,0,none⟩))),(8,.val (.pointer (some ⟨a,0,none⟩))),(9,.val (.pointer (some ⟨a,4,none⟩))),(10,.val (.int .u32 (e.R:Int))),(11,.is (fun q wq=> ∃ad cap,q= .agg #[.slice ad s.length cap,.int .u8 (d:Int),.int .i64 (r:Int),.int .u32 (t:Int),.int .u32 (e.R:Int)]∧wq.ownsRow w0.heap.size 5 1 (.slice ad s.length cap) s.length (ins .u8 (nums s)))),(12,.is (fun q wq=> ∃r2 v2,q= .pointer (some ⟨r2,0,none⟩)∧w0.heap.size≤r2∧En wq w0.heap.size r2 v2 ⟨s,d,r,t⟩ e.R))] slot).holds vv ww) (fun _=>undef) rfl (by kernel_rfl) 10 _ rfl rfl (by kernel_rfl) ?_ (fun _ v w w' hc h=>Fact.stays _ v w w' hc h) ?_ ?_
 ·repeat (refine⟨⟨_,rfl,fun _ _=>rfl⟩,?_⟩)
  exact trivial
 ·refine⟨?_,?_,?_,?_,?_,?_,?_,?_,?_,?_,trivial⟩
  ·intro u w hc hd K hK
   clear hd
   go_simp
   exact hK.out (.pointer (some ⟨a,0,none⟩)) w (Chg.refl _ _) rfl
  ·intro u w hc hd K hK
   have h3:(Fact.val (.pointer (some ⟨a,0,none⟩))).holds (u 3) w:=hd.get 0 (by kernel_rfl)
   simp only [Fact.holds]at h3
   clear hd
   simp only [h3]at hK
   go_simp
   exact hK.out (.pointer (some ⟨a,0,none⟩)) w (Chg.refl _ _) rfl
  ·intro u w hc hd K hK
   have h4:(Fact.val (.pointer (some ⟨a,0,none⟩))).holds (u 4) w:=hd.get 1 (by kernel_rfl)
   simp only [Fact.holds]at h4
   clear hd
   simp only [h4]at hK
   go_simp
   exact hK.out (.pointer (some ⟨a,0,none⟩)) w (Chg.refl _ _) rfl
  ·intro u w hc hd K hK
   have h5:(Fact.val (.pointer (some ⟨a,0,none⟩))).holds (u 5) w:=hd.get 2 (by kernel_rfl)
   simp only [Fact.holds]at h5
   clear hd
   simp only [h5]at hK
   go_simp
   go_at_call 84
   refine(lofork_any B a v s d r t e.R w (HE.out.new hc) hl).mono ?_
   rintro e2 w2 ⟨v2,rfl,ho,c2⟩
   obtain⟨ad,cap,rfl,_⟩:=own_any ho
   exact hK.out _ _ c2 ⟨w2,⟨ad,cap,rfl,owns_base ho hc.size⟩,Chg.refl _ _⟩
  ·intro u w hc hd K hK
   clear hd
   go_simp
   exact hK.out (.pointer (some ⟨a,0,none⟩)) w (Chg.refl _ _) rfl
  ·intro u w hc hd K hK
   have h7:(Fact.val (.pointer (some ⟨a,0,none⟩))).holds (u 7) w:=hd.get 4 (by kernel_rfl)
   simp only [Fact.holds]at h7
   clear hd
   simp only [h7]at hK
   go_simp
   exact hK.out (.pointer (some ⟨a,0,none⟩)) w (Chg.refl _ _) rfl
  ·intro u w hc hd K hK
   have h8:(Fact.val (.pointer (some ⟨a,0,none⟩))).holds (u 8) w:=hd.get 5 (by kernel_rfl)
   simp only [Fact.holds]at h8
   clear hd
   simp only [h8]at hK
   go_simp
   exact hK.out (.pointer (some ⟨a,4,none⟩)) w (Chg.refl _ _) rfl
  ·intro u w hc hd K hK
   have h9:(Fact.val (.pointer (some ⟨a,4,none⟩))).holds (u 9) w:=hd.get 6 (by kernel_rfl)
   simp only [Fact.holds]at h9
   clear hd
   simp only [h9]at hK
   have hcell:=cell_chg k4 hc
   go_simp
   exact hK.out _ _ (Chg.refl _ _) rfl
  ·intro u w hc hd K hK
   have h6:(Fact.is (fun q wq=> ∃ad cap,q= .agg #[.slice ad s.length cap,.int .u8 (d:Int),.int .i64 (r:Int),.int .u32 (t:Int)]∧wq.ownsRow w0.heap.size 5 1 (.slice ad s.length cap) s.length (ins .u8 (nums s)))).holds (u 6) w:=hd.get 3 (by kernel_rfl)
   obtain⟨q6,h6,p6⟩:=h6
   have h10:(Fact.val (.int .u32 (e.R:Int))).holds (u 10) w:=hd.get 7 (by kernel_rfl)
   simp only [Fact.holds]at h10
   clear hd
   simp only [h10]at hK
   obtain⟨ad,cap,e6,o6⟩:=h6
   have o6':=ownsRow_keep o6 p6 (fun _ _ f=>f)
   simp only [e6]at hK
   go_simp
   exact hK.out _ w (Chg.refl _ _) ⟨w,⟨ad,cap,rfl,o6'⟩,Chg.refl _ _⟩
  ·intro u w hc hd K hK
   have h11:(Fact.is (fun q wq=> ∃ad cap,q= .agg #[.slice ad s.length cap,.int .u8 (d:Int),.int .i64 (r:Int),.int .u32 (t:Int),.int .u32 (e.R:Int)]∧wq.ownsRow w0.heap.size 5 1 (.slice ad s.length cap) s.length (ins .u8 (nums s)))).holds (u 11) w:=hd.get 8 (by kernel_rfl)
   obtain⟨q11,h11,p11⟩:=h11
   clear hd
   obtain⟨ad,cap,e11,o11⟩:=h11
   have o12:=ownsRow_keep o11 p11 (fun _ _ f=>f)
   simp only [e11]at hK
   go_simp
   have c1:=chg_one w (.cells #[.slice ad s.length cap,.int .u8 (d:Int),.int .i64 (r:Int),.int .u32 (t:Int),.int .u32 (e.R:Int)] 141)
   exact hK.out _ _ c1 ⟨_,⟨_,_,rfl,hc.size,⟨hc.size,heap_alloc_last w _,ownsRow_keep o12 c1 (fun _ _ f=>f)⟩⟩,Chg.refl _ _⟩
 ·intro u w hc hA K hK
  have a12:=hA.at 12 (by kernel_rfl)
  clear hA
  obtain⟨wq,⟨r2,v2,e12,hr2,hR2⟩,cq⟩:(Fact.is (fun q wq=> ∃r2 v2,q= .pointer (some ⟨r2,0,none⟩)∧w0.heap.size≤r2∧En wq w0.heap.size r2 v2 ⟨s,d,r,t⟩ e.R)).holds (u 12) w:=a12
  have HR:Hid (En w w0.heap.size r2 v2 ⟨s,d,r,t⟩ e.R):=hR2.new cq
  have HC:Hid (Chg (fun _=>False) w0 w):=hc
  clear hR2 cq hc
  go_simp
  refine hK.out _ _ ?_
  go_simp
  go_wp2
  go_ret
  exact⟨r2,v2,rfl,hr2,⟨_,HR.out,HI.out⟩,HC.out⟩
end Go.Proofs.YthideplpcnhncaaGreatDoor
namespace Go.Proofs.YthideplpcnhncaaGreatDoor
open Go.RowKit
set_option linter.unusedVariables false
def num (i:Int):Nat:=(i% 5).toNat
theorem coded_ok {e:Rc.E}{p b:Int}(h:Rc.Ok e)(h1:31≤p)(h2:p≤2017):Rc.Ok (coded e p b):=by
 have hb:=Rc.bound_in (R:=e.R) (p:=p.toNat) h.lo (by omega) (by omega)
 exact Rc.cut_ok h hb.1 hb.2 _
theorem widen_k (e:Rc.E):e.k≤(Rc.widen e).k∧(Rc.widen e).k≤e.k+1:=by
 unfold Rc.widen
 split
 ·exact⟨Nat.le_succ _,Nat.le_refl _⟩
 ·exact⟨Nat.le_refl _,Nat.le_succ _⟩
theorem cut_k (e:Rc.E)(b:Nat)(one:Bool):e.k≤(Rc.cut e b one).k∧(Rc.cut e b one).k≤e.k+1:=by
 cases one
 ·exact widen_k ⟨e.L,b,e.k⟩
 ·exact widen_k ⟨e.L+b,e.R-b,e.k⟩
def e0:Rc.E:=coded Rc.start 1024 1
def x0:List Int:=[Prob.nx 1024 1,1024,1024,1024]
end Go.Proofs.YthideplpcnhncaaGreatDoor
namespace Go.Proofs.YthideplpcnhncaaGreatDoor
open Go.RowKit
set_option linter.unusedVariables false
structure Q where
 d:Bool
 i:Int
 n:Int
 v:Nat
def Q.ok (q:Q)(len:Nat):Prop:=if q.d then 0≤q.n∧q.n≤32 else 0≤q.i∧q.i<(len:Int)
instance (q:Q) (len:Nat):Decidable (q.ok len):=by unfold Q.ok;infer_instance
def Q.bits (q:Q):Nat:=if q.d then q.n.toNat else 1
def pAt (xs:List Int)(i:Int):Int:=xs.getD i.toNat 1024
def pSet (xs:List Int)(i b:Int):List Int:=xs.set i.toNat (Prob.nx (pAt xs i) b)
def encE (q:Q)(e:Rc.E)(xs:List Int):Rc.E:=if q.d then direct q.v q.n.toNat e else coded e (pAt xs q.i) ((q.v% 2:Nat):Int)
def encX (q:Q)(xs:List Int):List Int:=if q.d then xs else pSet xs q.i ((q.v% 2:Nat):Int)
def encL:List Q→Rc.E→List Int→Rc.E×List Int
 | [],e,xs=>(e,xs)
 |q::l,e,xs=>if q.ok xs.length then encL l (encE q e xs) (encX q xs)else encL l e xs
end Go.Proofs.YthideplpcnhncaaGreatDoor
namespace Go.Proofs.YthideplpcnhncaaGreatDoor
open Go.RowKit
set_option linter.unusedVariables false
def bitAt (back:Bool)(n v i:Nat):Nat:=if back then v/2^i% 2 else v/2^(n-1-i)% 2
def bitsOf (back:Bool)(n v:Nat):List Nat:=(List.range n).map (bitAt back n v)
def Bits01 (l:List Nat):Prop:= ∀b∈l,b≤1
theorem bitAt_le (back:Bool)(n v i:Nat):bitAt back n v i≤1:=by unfold bitAt;split<;>omega
theorem bitsOf_01 (back:Bool)(n v:Nat):Bits01 (bitsOf back n v):=fun b hb=>by
 simp only [bitsOf,List.mem_map]at hb
 obtain⟨i,_,rfl⟩:=hb
 exact bitAt_le _ _ _ _
theorem bitsOf_len (back:Bool)(n v:Nat):(bitsOf back n v).length=n:=by simp [bitsOf]
theorem bitsOf_at {back:Bool}{n v i:Nat}(h:i<n):(bitsOf back n v)[i]?=some (bitAt back n v i):=by simp [bitsOf,h]
def wayQ (p:Nat):Nat→List Nat→List Q
 |_,[]=>[]
 |m,b::l=>⟨false,((p+m:Nat):Int),0,b⟩::wayQ p (2*m+b) l
def wayM:Nat→List Nat→Nat
 |m,[]=>m
 |m,b::l=>wayM (2*m+b) l
theorem wayQ_len (p:Nat): ∀(l:List Nat) (m:Nat),(wayQ p m l).length=l.length
 | [],_=>rfl
 |b::l,m=>by simp [wayQ,wayQ_len p l]
theorem wayM_append: ∀(l:List Nat) (m b:Nat),wayM m (l++[b])=2*wayM m l+b
 | [],m,b=>rfl
 |x::l,m,b=>by simp [wayM,wayM_append l]
theorem wayQ_ok {p len n:Nat}(hp:p+2^n≤len): ∀(l:List Nat) (m k:Nat),Bits01 l→k+l.length≤n→m<2^(k+1)→ ∀q∈wayQ p m l,q.ok len
 | [],m,k,_,_,_=>fun q hq=>(List.not_mem_nil hq).elim
 |b::l,m,k,h,hk,hm=>by
  have hb:b≤1:=h b (List.mem_cons_self ..)
  simp only [List.length_cons]at hk
  have h1:2^(k+1)≤2^n:=Nat.pow_le_pow_right (by omega) (by omega)
  intro q hq
  rcases List.mem_cons.1 hq with rfl|hq
  ·unfold Q.ok
   rw [if_neg (fun f=>by cases f)]
   simp only
   omega
  ·exact wayQ_ok hp l (2*m+b) (k+1) (fun x hx=>h x (List.mem_cons_of_mem _ hx)) (by omega) (by rw [Nat.pow_succ];omega) q hq
theorem wayQ_ok1 {p len n:Nat}(hp:p+2^n≤len){l:List Nat}(h:Bits01 l)(hl:l.length≤n): ∀q∈wayQ p 1 l,q.ok len:=wayQ_ok hp l 1 0 h (by omega) (by decide)
def numF:Nat→List Nat→Nat
 |a,[]=>a
 |a,b::l=>numF (2*a+b) l
theorem numF_append: ∀(l:List Nat) (a b:Nat),numF a (l++[b])=2*numF a l+b
 | [],a,b=>rfl
 |x::l,a,b=>by simp [numF,numF_append l]
end Go.Proofs.YthideplpcnhncaaGreatDoor
namespace Go.Proofs.YthideplpcnhncaaGreatDoor
open Go.RowKit
set_option linter.unusedVariables false
def Stands (len:Nat)(p n:Int):Prop:=0≤n∧n≤16∧0≤p∧p+2^n.toNat≤(len:Int)
def Fits (len:Nat)(p n v:Int):Prop:=Stands len p n∧0≤v∧v<2^n.toNat
instance (len:Nat) (p n:Int):Decidable (Stands len p n):=by unfold Stands;infer_instance
instance (len:Nat) (p n v:Int):Decidable (Fits len p n v):=by unfold Fits;infer_instance
theorem pow16 {n:Nat}(hn:n≤16):2^n≤65536:=Nat.pow_le_pow_right (n:=2) (by omega) hn
end Go.Proofs.YthideplpcnhncaaGreatDoor
namespace Go.Proofs.YthideplpcnhncaaGreatDoor
open Go.RowKit
set_option linter.unusedVariables false
theorem wayQ_at (p:Nat): ∀(l:List Nat) (m k b:Nat),l[k]?=some b→(wayQ p m l)[k]?=some ⟨false,((p+wayM m (l.take k):Nat):Int),0,b⟩
 | [],m,k,b,h=>by simp at h
 |x::l,m,0,b,h=>by simp at h;subst h;rfl
 |x::l,m,k+1,b,h=>by
  simp at h
  simp [wayQ,wayM,wayQ_at p l (2*m+x) k b h]
theorem encL_drop {k:Nat}{l:List Q}{q:Q}(h:l[k]?=some q)(e:Rc.E)(xs:List Int)(hq:q.ok xs.length):encL (l.drop k) e xs=encL (l.drop (k+1)) (encE q e xs) (encX q xs):=by
 have h1:k<l.length:=(List.getElem?_eq_some_iff.1 h).1
 have h2:l[k]=q:=(List.getElem?_eq_some_iff.1 h).2
 rw [List.drop_eq_getElem_cons h1,h2,encL,if_pos hq]
theorem enc_bit {e:Rc.E}{xs:List Int}{j b:Nat}(hj:j<xs.length)(hb:b≤1):encE ⟨false,(j:Int),0,b⟩ e xs=coded e xs[j] (b:Int)∧encX ⟨false,(j:Int),0,b⟩ xs=xs.set j (Prob.nx xs[j] (b:Int)):=by
 have h1:pAt xs (j:Int)=xs[j]:=by unfold pAt;simp [hj]
 have h2:b% 2=b:=by omega
 unfold encE encX pSet
 simp only [Bool.false_eq_true,if_false,h1,h2,Int.toNat_natCast]
 exact⟨trivial,trivial⟩
theorem coded_k {e:Rc.E}{p b:Int}:(coded e p b).k≤e.k+1:=by
 unfold coded
 exact(cut_k _ _ _).2
theorem fits_bits {len:Nat}{p n v:Int}(h:Fits len p n v):p.toNat+2^n.toNat≤len∧n.toNat≤16∧v.toNat<2^n.toNat:=by
 obtain⟨⟨h1,h2,h3,h4⟩,h5,h6⟩:=h
 have e:((2^n.toNat:Nat):Int)=(2:Int)^n.toNat:=by simp
 rw [←e]at h4 h6
 omega
end Go.Proofs.YthideplpcnhncaaGreatDoor
namespace Go.Proofs.YthideplpcnhncaaGreatDoor
open Go.RowKit
set_option linter.unusedVariables false
def costW (xs:List Int)(p:Nat):Nat→List Nat→Int
 |_,[]=>0
 |m,b::l=>Prob.co (xs.getD (p+m) 1024) (b:Int)+costW xs p (2*m+b) l
theorem costW_append (xs:List Int)(p:Nat): ∀(l:List Nat) (m b:Nat),costW xs p m (l++[b])=costW xs p m l+Prob.co (xs.getD (p+wayM m l) 1024) (b:Int)
 | [],m,b=>by simp [costW,wayM]
 |x::l,m,b=>by simp [costW,wayM,costW_append xs p l];omega
theorem co_in {xs:List Int}(hI:In31 xs)(i b:Nat):1≤Prob.co (xs.getD i 1024) (b:Int)∧Prob.co (xs.getD i 1024) (b:Int)≤103:=by
 have h1:31≤xs.getD i 1024∧xs.getD i 1024≤2017:=by
  rw [List.getD_eq_getElem?_getD]
  cases e:xs[i]? with
  |none=>simp
  |some x=>exact hI x (List.mem_of_getElem? e)
 by_cases hb:(b:Int)=0
 ·rw [hb,Prob.co0 (by omega) (by omega)];exact Prob.cost_in h1.1 h1.2
 ·rw [Prob.co1 hb (by omega) (by omega)];exact Prob.cost_in2 (by omega) (by omega)
theorem costW_in {xs:List Int}(hI:In31 xs)(p:Nat): ∀(l:List Nat) (m:Nat),0≤costW xs p m l∧costW xs p m l≤103*l.length
 | [],m=>by simp [costW]
 |b::l,m=>by
  have h1:=co_in hI (p+m) b
  have h2:=costW_in hI p l (2*m+b)
  simp only [costW,List.length_cons]
  omega
end Go.Proofs.YthideplpcnhncaaGreatDoor
namespace Go.Proofs.YthideplpcnhncaaGreatDoor
open Go.RowKit
set_option linter.unusedVariables false
theorem numF_le: ∀(l:List Nat) (a:Nat),Bits01 l→numF a l<(a+1)*2^l.length
 | [],a,_=>by simp [numF]
 |b::l,a,h=>by
  have hb:b≤1:=h b (List.mem_cons_self ..)
  have h2:=numF_le l (2*a+b) (fun x hx=>h x (List.mem_cons_of_mem _ hx))
  simp only [numF,List.length_cons,Nat.pow_succ]
  have e2:(a+1)*(2^l.length*2)=(2*a+2)*2^l.length:=by rw [Nat.mul_comm (2^l.length) 2,←Nat.mul_assoc,Nat.mul_comm (a+1) 2];congr 1
  rw [e2]
  have a2:(2*a+b+1)*2^l.length≤(2*a+2)*2^l.length:=Nat.mul_le_mul_right _ (by omega)
  omega
end Go.Proofs.YthideplpcnhncaaGreatDoor
namespace Go.Proofs.YthideplpcnhncaaGreatDoor
open Go.RowKit
set_option linter.unusedVariables false
def Bits (w:World)(a:Option Addr)(n:Nat):Prop:= ∀k,k<n→ ∃b off,a=some ⟨b,off,none⟩∧ ∃i one,w.cell? ⟨b,off+k*2,none⟩=some (.int .i64 i)∧w.cell? ⟨b,off+k*2+1,none⟩=some (.bool one)∧I64 i
theorem Bits.new {w w':World}{a:Option Addr}{n:Nat}(h:Bits w a n)(hc:Chg (fun _=>False) w w'):Bits w' a n:=fun k hk=>by
 obtain⟨b,off,e,i,one,h0,h1,hi⟩:=h k hk
 exact⟨b,off,e,i,one,cell_chg h0 hc,cell_chg h1 hc,hi⟩
def Dis (F G:Nat→Prop):Prop:= ∀z,F z→G z→False
theorem Dis.symm {F G:Nat→Prop}(h:Dis F G):Dis G F:=fun z g f=>h z f g
theorem Enc.foot_lt {w:World}{B a:Nat}{v:Value}{e:Rc.E}(h:Enc w B a v e){z:Nat}(f:Foot a v z):B≤z∧z<w.heap.size:=by
 obtain⟨l,hE,_⟩:=h
 rcases f with rfl|f
 ·exact⟨hE.hr,hE.lt⟩
 ·exact hE.own.lt z f
theorem Enc.new {w w':World}{B a:Nat}{v:Value}{e:Rc.E}(h:Enc w B a v e)(hc:Chg (fun _=>False) w w'):Enc w' B a v e:=by
 obtain⟨l,hE,hI⟩:=h
 exact⟨l,hE.new hc,hI⟩
theorem Enc.keep {w w':World}{S:Nat→Prop}{B a:Nat}{v:Value}{e:Rc.E}(h:Enc w B a v e)(hc:Chg S w w')(hd:Dis S (Foot a v)):Enc w' B a v e:=by
 obtain⟨l,hE,hI⟩:=h
 exact⟨l,hE.keep hc (fun f=>hd a f (.inl rfl)) (fun g e f=>hd g f (.inr e)),hI⟩
theorem Enc.chg {w w1 w2:World}{B a:Nat}{v:Value}{e:Rc.E}(h:Enc w1 B a v e)(hc:Chg (fun _=>False) w w1)(hs:w.heap.size≤B)(c2:Chg (Foot a v) w1 w2):Chg (fun _=>False) w w2:=
 hc.trans c2 (fun z f=> .inr (Nat.le_trans hs (h.foot_lt f).1))
end Go.Proofs.YthideplpcnhncaaGreatDoor
namespace Go.Proofs.YthideplpcnhncaaGreatDoor
open Go.RowKit
set_option linter.unusedVariables false
def Q.cells (q:Q):List Value:=[.bool q.d,.int .i64 q.i,.int .i64 q.n,.int .u32 (q.v:Int)]
def may (n:Nat)(l:List Q):List Q:=l.filter (fun q=>decide (q.ok n))
end Go.Proofs.YthideplpcnhncaaGreatDoor
namespace Go.Proofs.YthideplpcnhncaaGreatDoor
open Go.RowKit
set_option linter.unusedVariables false
def putF:Bool→FuncId
 |true=>208
 |false=>211
def costF:Bool→FuncId
 |true=>227
 |false=>229
def numQ (back:Bool)(p n x:Int):List Q:=wayQ p.toNat 1 (bitsOf back n.toNat x.toNat)
def Fp (a:Nat)(v us:Value)(z:Nat):Prop:=Foot a v z∨us.ownBlock=some z
structure TreePut:Prop where
 put: ∀(back:Bool) (B B' a s:Nat) (v us:Value) (e:Rc.E) (xs:List Int) (p n x:Int) (w:World),Enc w B a v e→Rc.Ok e→e.k+17≤140737488355328→B≤w.heap.size→St w B' s us xs→In31 xs→xs.length≤1048576→I64 p→I64 n→I64 x→Calls Tryz.prog (putF back) #[.pointer (some ⟨a,0,none⟩),.pointer (some ⟨s,0,none⟩),.int .i64 p,.int .i64 n,.int .i64 x] w fun z w'=>
  (¬Fits xs.length p n x∧z= .returned (.int .i64 7)∧Chg (fun _=>False) w w')
  ∨(Fits xs.length p n x∧z= .returned (.int .i64 0)∧ ∃v',Enc w' B a v' (encL (numQ back p n x) e xs).1∧St w' B' s us (encL (numQ back p n x) e xs).2∧Chg (Fp a v us) w w'∧Moved w v v')
 cost: ∀(back:Bool) (B' s:Nat) (us:Value) (xs:List Int) (p n x:Int) (w:World),St w B' s us xs→In31 xs→xs.length≤1048576→I64 p→I64 n→I64 x→Calls Tryz.prog (costF back) #[.pointer (some ⟨s,0,none⟩),.int .i64 p,.int .i64 n,.int .i64 x] w fun z w'=>
  (¬Fits xs.length p n x∧z= .returned (.tuple #[.int .i64 0,.int .i64 7])∧Chg (fun _=>False) w w')
  ∨(Fits xs.length p n x∧z= .returned (.tuple #[.int .i64 (costW xs p.toNat 1 (bitsOf back n.toNat x.toNat)),.int .i64 0])∧Chg (fun _=>False) w w')
end Go.Proofs.YthideplpcnhncaaGreatDoor
