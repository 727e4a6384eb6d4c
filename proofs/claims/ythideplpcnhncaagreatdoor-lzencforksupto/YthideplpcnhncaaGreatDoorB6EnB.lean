/- Of no statement by itself: EnB, EnD, RefC, Rd, RdB, EnC, RefD, EnE (without blanks and remarks). -/
import Derived.Test.YthideplpcnhncaaGreatDoorB5New
import Derived.Test.YthideplpcnhncaaGreatDoorB4Wb
import Derived.Test.YthideplpcnhncaaGreatDoorRc
import Derived.Laws.BitsAllLaws
namespace Go.Proofs.YthideplpcnhncaaGreatDoor
open Go.RowKit
set_option linter.unusedVariables false
set_option maxHeartbeats 2000000 in
set_option maxRecDepth 100000 in
theorem shift_any (B a:Nat)(v:Value)(s:List Nat)(d r t R:Nat)(w0:World)(h:En w0 B a v ⟨s,d,r,t⟩ R)(ht:t<4294967296)(hl:s.length+r+1≤140737488355328)(hB:B≤w0.heap.size):
  Calls Tryz.prog 215 #[.pointer (some ⟨a,0,none⟩)] w0 fun e w'=>e= .returned (.tuple #[])∧ ∃v',En w' B a v' (Rc.shift ⟨s,d,r,t⟩) R∧Chg (Foot a v) w0 w'∧Moved w0 v v':=by
 have k3:w0.cell? ⟨a,3,none⟩=some (.int .u32 (t:Int)):=(cells5e h.blk).2.2.2.1
 have k2:w0.cell? ⟨a,2,none⟩=some (.int .i64 (r:Int)):=(cells5e h.blk).2.2.1
 have f3:=(cells5e h.blk).2.2.2.2.2 3
 have f2:=(cells5e h.blk).2.2.2.2.2 2
 obtain⟨hS,hC⟩:=h.setT (t*256% 4294967296) ((t:Int)*256% 4294967296) (by omega)
 by_cases hT:t/16777216=255
 ·have hz:(t:Int)/16777216=255:=by omega
  obtain⟨hS2,hC2⟩:=hS.setN (r+1) ((r:Int)+1) (by omega)
  have HS:Hid (En ((w0.setCell ⟨a,3,none⟩ (.int .u32 ((t:Int)*256% 4294967296))).setCell ⟨a,2,none⟩ (.int .i64 ((r:Int)+1))) B a v (Rc.shift ⟨s,d,r,t⟩) R):=by
   show En _ _ _ _ _ _
   unfold Rc.shift
   rw [if_pos hT]
   exact hS2
  have HC:Hid (Chg (Foot a v) w0 ((w0.setCell ⟨a,3,none⟩ (.int .u32 ((t:Int)*256% 4294967296))).setCell ⟨a,2,none⟩ (.int .i64 ((r:Int)+1)))):=(hC.trans hC2 (fun _ e=> .inl e)).mono (fun _ e=> .inl (.inl e))
  clear h hS hC hS2 hC2
  go_enter Tryz.func215,Tryz.ntmps215
  go_wp2
  (try simp only [Exit.inBlock,Exit.then])
  refine bodyPost_ret (results_none rfl _ _ _) rfl ?_
  exact⟨rfl,v,HS.out,HC.out,Moved.refl _ _⟩
 ·have hz:decide ((t:Int)/16777216=255)=false:=by simp;omega
  have hz2:((t:Int)/16777216==255)=false:=by simp;omega
  have HS:Hid (En (w0.setCell ⟨a,3,none⟩ (.int .u32 ((t:Int)*256% 4294967296))) B a v ⟨s,d,r,t*256% 4294967296⟩ R):=hS
  have HC:Hid (Chg (Foot a v) w0 (w0.setCell ⟨a,3,none⟩ (.int .u32 ((t:Int)*256% 4294967296)))):=hC.mono (fun _ e=> .inl (.inl e))
  have HT:Hid (¬t/16777216=255):=hT
  clear h hS hC hT k2 f2
  go_enter Tryz.func215,Tryz.ntmps215
  go_wp2_with fail
  refine(settle_any B a v s d r (t*256% 4294967296) R _ HS.out hl (by rw [set_size];exact hB)).mono ?_
  rintro e w2 ⟨rfl,v2,h2,c2,m2⟩
  have g1:=(cells5e h2.blk).2.2.2.2.2 1
  have p1:=(cells5e h2.blk).2.1
  obtain⟨hS3,hC3⟩:=h2.setH (t/16777216) ((t:Int)/16777216) (by omega)
  have HS3:Hid (En (w2.setCell ⟨a,1,none⟩ (.int .u8 ((t:Int)/16777216))) B a v2 (Rc.shift ⟨s,d,r,t⟩) R):=by
   show En _ _ _ _ _ _
   unfold Rc.shift
   rw [if_neg HT.out]
   exact hS3
  have HC3:Hid (Chg (Foot a v) w0 (w2.setCell ⟨a,1,none⟩ (.int .u8 ((t:Int)/16777216)))):=(HC.out.trans c2 (fun _ e=> .inl e)).trans hC3 (fun _ e=> .inl (.inl e))
  have HM3:Hid (Moved w0 v v2):=fun g e=>by
   rcases m2 g e with e|e
   ·exact .inl e
   ·rw [set_size]at e;exact .inr e
  clear h2 c2 m2 hS3 hC3 HS HC
  go_wp2
  go_end0
  exact⟨rfl,v2,HS3.out,HC3.out,HM3.out⟩
set_option maxHeartbeats 2000000 in
set_option maxRecDepth 100000 in
theorem add_any (B a:Nat)(v:Value)(s:List Nat)(d r t R x:Nat)(w0:World)(h:En w0 B a v ⟨s,d,r,t⟩ R)(ht:t<4294967296)(hx:x<4294967296)(hd:4294967296≤t+x→d<255)(hl:s.length+r≤140737488355328)(hB:B≤w0.heap.size):
  Calls Tryz.prog 214 #[.pointer (some ⟨a,0,none⟩),.int .u32 (x:Int)] w0 fun e w'=>e= .returned (.tuple #[])∧ ∃v',En w' B a v' (Rc.add ⟨s,d,r,t⟩ x) R∧Chg (Foot a v) w0 w'∧Moved w0 v v':=by
 have k3:w0.cell? ⟨a,3,none⟩=some (.int .u32 (t:Int)):=(cells5e h.blk).2.2.2.1
 have f3:=(cells5e h.blk).2.2.2.2.2 3
 by_cases hT:t+x<4294967296
 ·obtain⟨hS,hC⟩:=h.setT (t+x) ((t:Int)+(x:Int)) (by omega)
  have HS:Hid (En (w0.setCell ⟨a,3,none⟩ (.int .u32 ((t:Int)+(x:Int)))) B a v (Rc.add ⟨s,d,r,t⟩ x) R):=by
   show En _ _ _ _ _ _
   unfold Rc.add
   rw [if_pos hT]
   exact hS
  have HC:Hid (Chg (Foot a v) w0 (w0.setCell ⟨a,3,none⟩ (.int .u32 ((t:Int)+(x:Int))))):=hC.mono (fun _ e=> .inl (.inl e))
  have hlt:decide ((t:Int)+(x:Int)<(x:Int))=false:=by simp;omega
  have hz:((t:Int)+(x:Int))% 4294967296=(t:Int)+(x:Int):=by omega
  clear h hS hC hd
  go_enter Tryz.func214,Tryz.ntmps214
  go_wp2
  go_end0
  exact⟨rfl,v,HS.out,HC.out,Moved.refl _ _⟩
 ·have hd2:=hd (by omega)
  obtain⟨y,hy⟩: ∃y:Int,y=((t+x-4294967296:Nat):Int):=⟨_,rfl⟩
  have hw:IntKind.u32.wrap ((t:Int)+(x:Int))=y:=by simp [IntKind.wrap,IntKind.signed,IntKind.bits];omega
  have hz:((t:Int)+(x:Int))% 4294967296=y:=by omega
  have hylt:y<(x:Int):=by omega
  obtain⟨hS,hC⟩:=h.setT (t+x-4294967296) y hy
  have HS:Hid (En (w0.setCell ⟨a,3,none⟩ (.int .u32 y)) B a v ⟨s,d,r,t+x-4294967296⟩ R):=hS
  have HC:Hid (Chg (Foot a v) w0 (w0.setCell ⟨a,3,none⟩ (.int .u32 y))):=hC.mono (fun _ e=> .inl (.inl e))
  have HT:Hid (¬t+x<4294967296):=hT
  have q3:(w0.setCell ⟨a,3,none⟩ (.int .u32 y)).cell? ⟨a,3,none⟩=some (.int .u32 y):=by rw [hy]at hS⊢;exact(cells5e hS.blk).2.2.2.1
  clear h hS hC hd hy hT
  go_enter Tryz.func214,Tryz.ntmps214
  go_wp2_with fail
  refine(carry_any B a v s d r (t+x-4294967296) R _ HS.out hd2 hl (by rw [set_size];exact hB)).mono ?_
  rintro e w2 ⟨rfl,v2,h2,c2,m2⟩
  have HS3:Hid (En w2 B a v2 (Rc.add ⟨s,d,r,t⟩ x) R):=by
   show En _ _ _ _ _ _
   unfold Rc.add
   rw [if_neg HT.out]
   exact h2
  have HC3:Hid (Chg (Foot a v) w0 w2):=HC.out.trans c2 (fun _ e=> .inl e)
  have HM3:Hid (Moved w0 v v2):=fun g e=>by
   rcases m2 g e with e|e
   ·exact .inl e
   ·rw [set_size]at e;exact .inr e
  clear h2 c2 m2 HS HC
  go_wp2
  go_end0
  exact⟨rfl,v2,HS3.out,HC3.out,HM3.out⟩
def Enc (w:World)(B a:Nat)(v:Value)(e:Rc.E):Prop:= ∃l,En w B a v l e.R∧Rc.Is l e
set_option maxHeartbeats 1000000 in
set_option maxRecDepth 100000 in
theorem widen_no (B a:Nat)(v:Value)(l:Rc.Lo)(R:Nat)(w:World)(h:En w B a v l R)(hR:16777216≤R)(hR2:R≤4294967295):Calls Tryz.prog 203 #[.pointer (some ⟨a,0,none⟩)] w fun e w'=>e= .returned (.tuple #[])∧w=w':=by
 have c1:=(cells5e h.blk).2.2.2.2.1
 clear h
 obtain⟨z,hz⟩: ∃z:Int,z=(R:Int):=⟨_,rfl⟩
 have h1:16777216≤z:=by omega
 have h2:z≤4294967295:=by omega
 rw [←hz]at c1
 clear hz hR hR2
 have hd:decide (z<16777216)=false:=by simp;omega
 go_enter Tryz.func203,Tryz.ntmps203
 go_wp2_with fail
 refine wp_loop_rounds 1 ?_
 rw [rounds_succ]
 go_wp2
 go_end0
 exact⟨rfl,rfl⟩
set_option maxHeartbeats 2000000 in
set_option maxRecDepth 100000 in
theorem widen_yes (B a:Nat)(v:Value)(s:List Nat)(d r t R:Nat)(w0:World)(h:En w0 B a v ⟨s,d,r,t⟩ R)(ht:t<4294967296)(hR1:65536≤R)(hR2:R<16777216)(hl:s.length+r+1≤140737488355328)(hB:B≤w0.heap.size):
  Calls Tryz.prog 203 #[.pointer (some ⟨a,0,none⟩)] w0 fun e w'=>e= .returned (.tuple #[])∧ ∃v',En w' B a v' (Rc.shift ⟨s,d,r,t⟩) (256*R)∧Chg (Foot a v) w0 w'∧Moved w0 v v':=by
 have k4:=(cells5e h.blk).2.2.2.2.1
 have HH:Hid (En w0 B a v ⟨s,d,r,t⟩ R):=h
 obtain⟨z,hz⟩: ∃z:Int,z=(R:Int):=⟨_,rfl⟩
 have HZ:Hid (z=(R:Int)):=hz
 have z1:65536≤z:=by omega
 have z2:z<16777216:=by omega
 rw [←hz]at k4
 clear hz hR1 hR2 h
 go_enter Tryz.func203,Tryz.ntmps203
 go_wp2_with fail
 go_loopw [2] (fun _ wr=>wr=w0∨ ∃v',En wr B a v' (Rc.shift ⟨s,d,r,t⟩) (256*R)∧Chg (Foot a v) w0 wr∧Moved w0 v v') (fun _ wr=>match wr.cell? ⟨a,4,none⟩with|some (.int _ q)=>(16777216-q).toNat|_=>0)
 case atStart=>exact .inl rfl
 case round=>
  rcases hrel with rfl|⟨v',hR,hC,hM⟩
  ·go_wp2_with fail
   refine(shift_any B a v s d r t R _ HH.out ht hl hB).mono ?_
   rintro e w2 ⟨rfl,v2,h2,c2,m2⟩
   have q4:w2.cell? ⟨a,4,none⟩=some (.int .u32 z):=by have hz:=HZ.out;rw [hz];exact(cells5e h2.blk).2.2.2.2.1
   have g4:=(cells5e h2.blk).2.2.2.2.2 4
   obtain⟨hS3,hC3⟩:=h2.setR (256*R) (z*256) (by have hz:=HZ.out;omega)
   have hzm:z*256% 4294967296=z*256:=by omega
   have HS3:Hid (En (w2.setCell ⟨a,4,none⟩ (.int .u32 (z*256))) B a v2 (Rc.shift ⟨s,d,r,t⟩) (256*R)):=hS3
   have HC3:Hid (Chg (Foot a v) wr (w2.setCell ⟨a,4,none⟩ (.int .u32 (z*256)))):=c2.trans hC3 (fun _ e=> .inl (.inl e))
   have HM3:Hid (Moved wr v v2):=m2
   have Q4:Hid ((w2.setCell ⟨a,4,none⟩ (.int .u32 (z*256))).cell? ⟨a,4,none⟩=some (.int .u32 (z*256))):=by
    have h3:=(cells5e hS3.blk).2.2.2.2.1
    have hz:=HZ.out
    rw [show((256*R:Nat):Int)=z*256 by omega]at h3
    exact h3
   clear h2 c2 m2 hS3 hC3 HH
   go_wp2
   go_roundw
   case rel=>exact .inr ⟨v2,HS3.out,HC3.out,HM3.out⟩
   case measure=>
    rw [Q4.out,k4]
    show(16777216-z*256).toNat<(16777216-z).toNat
    omega
  ·have q4:wr.cell? ⟨a,4,none⟩=some (.int .u32 (z*256)):=by
    have h3:=(cells5e hR.blk).2.2.2.2.1
    have hz:=HZ.out
    rw [show((256*R:Nat):Int)=z*256 by omega]at h3
    exact h3
   have hd:decide (z*256<16777216)=false:=by simp;omega
   clear k4 HH
   go_wp2
   go_end0
   exact⟨rfl,v',hR,hC,hM⟩
theorem widen_any (B a:Nat)(v:Value)(f:Rc.E)(w:World)(h:Enc w B a v f)(h1:65536≤f.R)(h2:f.R≤4294967295)(hk:f.k+1≤140737488355328)(hB:B≤w.heap.size):
  Calls Tryz.prog 203 #[.pointer (some ⟨a,0,none⟩)] w fun e w'=>e= .returned (.tuple #[])∧ ∃v',Enc w' B a v' (Rc.widen f)∧Chg (Foot a v) w w'∧Moved w v v':=by
 obtain⟨l,hE,hI⟩:=h
 by_cases hR:f.R<16777216
 ·have e:Rc.widen f=⟨256*f.L,256*f.R,f.k+1⟩:=by unfold Rc.widen;rw [if_pos hR]
  rw [e]
  refine(widen_yes B a v l.s l.h l.r l.t f.R w hE hI.ht h1 hR (by have:=hI.len;omega) hB).mono ?_
  rintro x w' ⟨he,v',hE',hC,hM⟩
  exact⟨he,v',⟨_,hE',Rc.shift_is hI hR⟩,hC,hM⟩
 ·have e:Rc.widen f=f:=by unfold Rc.widen;rw [if_neg hR]
  rw [e]
  exact(widen_no B a v l f.R w hE (by omega) h2).mono fun x w' ⟨he,hw⟩=>⟨he,v,by rw [←hw];exact⟨l,hE,hI⟩,by rw [←hw];exact Chg.refl _ _,Moved.refl _ _⟩
theorem adde_any (B a:Nat)(v:Value)(f:Rc.E)(b Q S:Nat)(w:World)(l:Rc.Lo)(hE:En w B a v l S)(hI:Rc.Is l f)(hb:b<4294967296)(hQ:b+Q≤f.R)(h0:0<Q)(h2:f.R≤4294967295)(hk:f.k+1≤140737488355328)(hB:B≤w.heap.size):
  Calls Tryz.prog 214 #[.pointer (some ⟨a,0,none⟩),.int .u32 (b:Int)] w fun e w'=>e= .returned (.tuple #[])∧ ∃v' l',En w' B a v' l' S∧Rc.Is l' ⟨f.L+b,Q,f.k⟩∧Chg (Foot a v) w w'∧Moved w v v':=by
 refine(add_any B a v l.s l.h l.r l.t S b w hE hI.ht hb (fun hc=> ?_) (by have:=hI.len;omega) hB).mono ?_
 ·obtain⟨P,A,B',M,hP,hM,hA,hB',hv,hf⟩:=hI.parts
  rcases Nat.lt_or_ge l.h 255 with c|c
  ·exact c
  ·exfalso
   have h1:255*P≤l.h*P:=Nat.mul_le_mul_right _ c
   clear hP hA
   omega
 ·rintro x w' ⟨he,v',hE',hC,hM⟩
  exact⟨he,v',_,hE',Rc.add_is hI hb hQ h0 (by omega),hC,hM⟩
end Go.Proofs.YthideplpcnhncaaGreatDoor
namespace Go.Proofs.YthideplpcnhncaaGreatDoor
open Go.RowKit
set_option linter.unusedVariables false
set_option maxHeartbeats 1000000 in
set_option maxRecDepth 100000 in
theorem losize_any (B a:Nat)(v:Value)(s:List Nat)(d r t R:Nat)(w0:World)(h:En w0 B a v ⟨s,d,r,t⟩ R)(hl:s.length+r≤140737488355328):
  Calls Tryz.prog 69 #[.pointer (some ⟨a,0,none⟩)] w0 fun e w'=>e= .returned (.int .i64 ((s.length+r+5:Nat):Int))∧Chg (fun _=>False) w0 w':=by
 obtain⟨ad,cap,hv,_⟩:=own_any h.own
 have k0:w0.cell? ⟨a,0,none⟩=some v:=(cells5e h.blk).1
 have k2:w0.cell? ⟨a,2,none⟩=some (.int .i64 (r:Int)):=(cells5e h.blk).2.2.1
 rw [hv]at k0
 replace k0:w0.cell? ⟨a,0,none⟩=some (.slice ad s.length cap):=k0
 clear h hv
 generalize s.length=n at*
 go_enter Tryz.func69,Tryz.ntmps69
 go_wp2_with fail
 refine wp_region_last (mk:=fun u=> #[_,_,_,u 3,u 4,u 5,u 6,u 7,u 8,u 9,u 10,u 11,u 12,u 13,u 14]) (F:=fun slot vv ww=>(look [(3,.val (.pointer (some ⟨a,0,none⟩))),(4,.val (.pointer (some ⟨a,0,none⟩))),(5,.val (.pointer (some ⟨a,0,none⟩))),(6,.val (.slice ad n cap)),(7,.val (.int .i64 ((n:Int)))),(8,.val (.int .i64 ((n:Int)+1))),(9,.val (.pointer (some ⟨a,0,none⟩))),(10,.val (.pointer (some ⟨a,0,none⟩))),(11,.val (.pointer (some ⟨a,2,none⟩))),(12,.val (.int .i64 ((r:Int)))),(13,.val (.int .i64 ((n:Int)+1+(r:Int)))),(14,.val (.int .i64 ((n:Int)+1+(r:Int)+4)))] slot).holds vv ww) (fun _=>undef) rfl (by kernel_rfl) 12 _ rfl rfl (by kernel_rfl) ?_ (fun _ v w w' hc h=>Fact.stays _ v w w' hc h) ?_ ?_
 ·repeat (refine⟨⟨_,rfl,fun _ _=>rfl⟩,?_⟩)
  exact trivial
 ·refine⟨?_,?_,?_,?_,?_,?_,?_,?_,?_,?_,?_,?_,trivial⟩
  ·intro u w hc hd K hK
   clear hd
   go_simp
   exact hK.out (.pointer (some ⟨a,0,none⟩)) w (Chg.refl _ _) rfl
  ·intro u w hc hd K hK
   have h3:(Fact.val (.pointer (some ⟨a,0,none⟩))).holds (u 3) w:=hd.get 0 (by kernel_rfl)
   simp only [Fact.holds]at h3
   clear hd
   simp only [h3]at hK
   go_simp
   exact hK.out (.pointer (some ⟨a,0,none⟩)) w (Chg.refl _ _) rfl
  ·intro u w hc hd K hK
   have h4:(Fact.val (.pointer (some ⟨a,0,none⟩))).holds (u 4) w:=hd.get 1 (by kernel_rfl)
   simp only [Fact.holds]at h4
   clear hd
   simp only [h4]at hK
   go_simp
   exact hK.out (.pointer (some ⟨a,0,none⟩)) w (Chg.refl _ _) rfl
  ·intro u w hc hd K hK
   have h5:(Fact.val (.pointer (some ⟨a,0,none⟩))).holds (u 5) w:=hd.get 2 (by kernel_rfl)
   simp only [Fact.holds]at h5
   clear hd
   simp only [h5]at hK
   have hcell:=cell_chg k0 hc
   go_simp
   exact hK.out _ _ (Chg.refl _ _) rfl
  ·intro u w hc hd K hK
   have h6:(Fact.val (.slice ad n cap)).holds (u 6) w:=hd.get 3 (by kernel_rfl)
   simp only [Fact.holds]at h6
   clear hd
   simp only [h6]at hK
   go_simp
   exact hK.out (.int .i64 ((n:Int))) w (Chg.refl _ _) rfl
  ·intro u w hc hd K hK
   have h7:(Fact.val (.int .i64 ((n:Int)))).holds (u 7) w:=hd.get 4 (by kernel_rfl)
   simp only [Fact.holds]at h7
   clear hd
   simp only [h7]at hK
   go_simp
   rw [wr64 (p:=(n:Int)+1) (by omega) (by omega)]
   exact hK.out _ _ (Chg.refl _ _) rfl
  ·intro u w hc hd K hK
   clear hd
   go_simp
   exact hK.out (.pointer (some ⟨a,0,none⟩)) w (Chg.refl _ _) rfl
  ·intro u w hc hd K hK
   have h9:(Fact.val (.pointer (some ⟨a,0,none⟩))).holds (u 9) w:=hd.get 6 (by kernel_rfl)
   simp only [Fact.holds]at h9
   clear hd
   simp only [h9]at hK
   go_simp
   exact hK.out (.pointer (some ⟨a,0,none⟩)) w (Chg.refl _ _) rfl
  ·intro u w hc hd K hK
   have h10:(Fact.val (.pointer (some ⟨a,0,none⟩))).holds (u 10) w:=hd.get 7 (by kernel_rfl)
   simp only [Fact.holds]at h10
   clear hd
   simp only [h10]at hK
   go_simp
   exact hK.out (.pointer (some ⟨a,2,none⟩)) w (Chg.refl _ _) rfl
  ·intro u w hc hd K hK
   have h11:(Fact.val (.pointer (some ⟨a,2,none⟩))).holds (u 11) w:=hd.get 8 (by kernel_rfl)
   simp only [Fact.holds]at h11
   clear hd
   simp only [h11]at hK
   have hcell:=cell_chg k2 hc
   go_simp
   exact hK.out _ _ (Chg.refl _ _) rfl
  ·intro u w hc hd K hK
   have h8:(Fact.val (.int .i64 ((n:Int)+1))).holds (u 8) w:=hd.get 5 (by kernel_rfl)
   simp only [Fact.holds]at h8
   have h12:(Fact.val (.int .i64 ((r:Int)))).holds (u 12) w:=hd.get 9 (by kernel_rfl)
   simp only [Fact.holds]at h12
   clear hd
   simp only [h8,h12]at hK
   go_simp
   rw [wr64 (p:=(n:Int)+1+(r:Int)) (by omega) (by omega)]
   exact hK.out _ _ (Chg.refl _ _) rfl
  ·intro u w hc hd K hK
   have h13:(Fact.val (.int .i64 ((n:Int)+1+(r:Int)))).holds (u 13) w:=hd.get 10 (by kernel_rfl)
   simp only [Fact.holds]at h13
   clear hd
   simp only [h13]at hK
   go_simp
   rw [wr64 (p:=(n:Int)+1+(r:Int)+4) (by omega) (by omega)]
   exact hK.out _ _ (Chg.refl _ _) rfl
 ·intro u w hc hA K hK
  have e14:u 14= .int .i64 ((n:Int)+1+(r:Int)+4):=hA.at 14 (by kernel_rfl)
  clear hA
  have HC:Hid (Chg (fun _=>False) w0 w):=hc
  clear hc
  go_simp
  refine hK.out _ _ ?_
  go_simp
  go_wp2
  go_ret
  refine⟨?_,HC.out⟩
  rw [show((n+r+5:Nat):Int)=(n:Int)+1+(r:Int)+4 by omega]
  rfl
theorem size_any (B a:Nat)(v:Value)(e:Rc.E)(w:World)(h:Enc w B a v e)(hk:e.k≤140737488355328):
  Calls Tryz.prog 35 #[.pointer (some ⟨a,0,none⟩)] w fun x w'=>x= .returned (.int .i64 ((e.k+5:Nat):Int))∧Chg (fun _=>False) w w':=by
 obtain⟨l,hE,hI⟩:=h
 have hlen:=hI.len
 go_enter Tryz.func35,Tryz.ntmps35
 go_wp2_with fail
 refine(losize_any B a v l.s l.h l.r l.t e.R _ hE (by omega)).mono ?_
 rintro x w1 ⟨rfl,c1⟩
 rw [hlen]
 clear hE hI
 go_wp2
 go_ret
 exact⟨rfl,c1⟩
end Go.Proofs.YthideplpcnhncaaGreatDoor
namespace Go.Proofs.YthideplpcnhncaaGreatDoor
open Go.RowKit
set_option linter.unusedVariables false
def In31 (xs:List Int):Prop:= ∀p∈xs,31≤p∧p≤2017
theorem In31.inn {xs:List Int}(h:In31 xs):In xs:=fun p hp=>by have:=h p hp;omega
theorem In31.set {xs:List Int}(h:In31 xs)(j:Nat)(p:Int)(hp:31≤p∧p≤2017):In31 (xs.set j p):=fun q hq=>by
 rcases List.mem_or_eq_of_mem_set hq with e|e
 ·exact h q e
 ·subst e;exact hp
theorem In31.at {xs:List Int}(h:In31 xs)(j:Nat)(hj:j<xs.length):31≤xs[j]∧xs[j]≤2017:=h _ (List.getElem_mem hj)
theorem In31.half (n:Nat):In31 (List.replicate n 1024):=fun q hq=>by
 obtain⟨_,rfl⟩:=List.mem_replicate.1 hq
 omega
def coded (e:Rc.E)(p b:Int):Rc.E:=Rc.cut e (e.R/2048*p.toNat) (decide (b≠0))
theorem bo_nat {R:Nat}{p:Int}(h1:31≤p)(h2:p≤2017):Prob.bo (R:Int) p=((R/2048*p.toNat:Nat):Int):=by
 unfold Prob.bo
 rw [Prob.cl_id (by omega) (by omega)]
 have e:((p.toNat:Nat):Int)=p:=by omega
 simp only [Int.natCast_mul,Int.natCast_ediv,e]
 rfl
end Go.Proofs.YthideplpcnhncaaGreatDoor
namespace Go.Proofs.YthideplpcnhncaaGreatDoor.Rc
structure D where
 n:Nat
 R:Nat
 C:Nat
end Go.Proofs.YthideplpcnhncaaGreatDoor.Rc
namespace Go.Proofs.YthideplpcnhncaaGreatDoor
open Go.RowKit
set_option linter.unusedVariables false
def bt (one:Bool):Int:=if one then 1 else 0
end Go.Proofs.YthideplpcnhncaaGreatDoor
namespace Go.Proofs.YthideplpcnhncaaGreatDoor
open Go.RowKit
set_option linter.unusedVariables false
set_option maxHeartbeats 2000000 in
set_option maxRecDepth 100000 in
theorem bit_zero (B B' a s:Nat)(u v:Value)(xs:List Int)(j:Nat)(e:Rc.E)(w:World)(hS:St w B' s u xs)(hI:In31 xs)(hj:j<xs.length)(h:Enc w B a v e)(hO:Rc.Ok e)(hk:e.k+1≤140737488355328)(hB:B≤w.heap.size):
  Calls Tryz.prog 209 #[.pointer (some ⟨a,0,none⟩),.pointer (some ⟨s,0,none⟩),.int .i64 j,.int .i64 0] w fun x w'=>x= .returned (.int .i64 0)∧ ∃v',Enc w' B a v' (coded e xs[j] 0)∧St w' B' s u (xs.set j (Prob.nx xs[j] 0))∧Chg (fun z=>Foot a v z∨u.ownBlock=some z) w w'∧Moved w v v':=by
 have hp:=hI.at j hj
 have hbn:=bo_nat (R:=e.R) hp.1 hp.2
 have HBB:Hid (65536≤e.R/2048*xs[j].toNat∧e.R/2048*xs[j].toNat+65536≤e.R):=Rc.bound_in (R:=e.R) (p:=xs[j].toNat) hO.lo (by omega) (by omega)
 have hi:=hO.hi
 have HI:Hid (e.R≤4294967295):=hi
 obtain⟨l,hE,hIs⟩:=h
 have k4:=(cells5e hE.blk).2.2.2.2.1
 have f4:=(cells5e hE.blk).2.2.2.2.2 4
 have HE:Hid (En w B a v l e.R):=hE
 have HIs:Hid (Rc.Is l e):=hIs
 have HS:Hid (St w B' s u xs):=hS
 have HP:Hid (I64 xs[j]):=(show I64 _ from⟨by omega,by omega⟩)
 have HO:Hid (Rc.Ok e):=hO
 have HK:Hid (e.k+1≤140737488355328):=hk
 have HB0:Hid (B≤w.heap.size):=hB
 have HJ:Hid (j<xs.length):=hj
 have HIN:Hid (In xs):=hI.inn
 obtain⟨z,hz⟩: ∃z:Int,z=(e.R:Int):=⟨_,rfl⟩
 have HZ:Hid (z=(e.R:Int)):=hz
 have HBN:Hid (Prob.bo z xs[j]=((e.R/2048*xs[j].toNat:Nat):Int)):=by show _=_;rw [hz];exact hbn
 have HUz:Hid (U32 z):=by show U32 z;rw [hz];exact⟨by omega,by omega⟩
 have z1:0≤z:=by omega
 have z2:z≤4294967295:=by omega
 rw [←hz]at k4
 clear hE hIs hS hbn hp hi hO hk hB hz
 obtain⟨p,hp⟩: ∃p:Int,p=xs[j]:=⟨_,rfl⟩
 have HPP:Hid (p=xs[j]):=hp
 have HAt:Hid (∀w2,w2=w→Calls Tryz.prog 159 #[.pointer (some ⟨s,0,none⟩),.int .i64 j] w2 fun x w'=>x= .returned (.tuple #[.int .i64 p,.int .i64 0])∧w2=w'):=fun w2 e2=>by
  subst e2
  rw [hp]
  exact at_in B' s u xs j _ HS.out HIN.out HJ.out
 have HBd:Hid (∀w2,Calls Tryz.prog 163 #[.int .u32 z,.int .i64 p] w2 fun x w'=>x= .returned (.int .u32 ((e.R/2048*xs[j].toNat:Nat):Int))∧w2=w'):=fun w2=>by
  have:=bound_any z p w2 HUz.out (by rw [hp];exact HP.out)
  rw [hp,HBN.out]at this
  rw [hp]
  exact this
 clear hp hI
 go_enter Tryz.func209,Tryz.ntmps209
 go_wp2_with fail
 refine(HAt.out _ rfl).mono ?_
 rintro x w1 ⟨rfl,rfl⟩
 go_wp2_with fail
 refine(HBd.out _).mono ?_
 rintro x w1 ⟨rfl,rfl⟩
 generalize hbv:e.R/2048*xs[j].toNat=bb at*
 have HBV:Hid (e.R/2048*xs[j].toNat=bb):=hbv
 have b1:(65536:Int)≤(bb:Int):=by have:=HBB.out;omega
 have b2:(bb:Int)≤z:=by have:=HBB.out;have:=HZ.out;omega
 clear hbv HAt HBd
 obtain⟨hS4,hC4⟩:=HE.out.setR bb (bb:Int) rfl
 have HS4:Hid (Enc (w.setCell ⟨a,4,none⟩ (.int .u32 (bb:Int))) B a v ⟨e.L,bb,e.k⟩):=⟨l,hS4,HIs.out.less (by have:=HBB.out;omega)⟩
 have HC4:Hid (Chg (Foot a v) w (w.setCell ⟨a,4,none⟩ (.int .u32 (bb:Int)))):=hC4.mono (fun _ e=> .inl (.inl e))
 clear hS4 hC4
 go_wp2_with fail
 refine(widen_any B a v ⟨e.L,bb,e.k⟩ _ HS4.out HBB.out.1 (by have:=HBB.out;have:=HI.out;show bb≤_;omega) HK.out (by rw [set_size];exact HB0.out)).mono ?_
 rintro x w2 ⟨rfl,v',hR,hC,hM⟩
 have HC2:Hid (Chg (Foot a v) w w2):=HC4.out.trans hC (fun _ e=> .inl e)
 have HM2:Hid (Moved w v v'):=fun g e=>by
  rcases hM g e with e|e
  ·exact .inl e
  ·rw [set_size]at e;exact .inr e
 have HR:Hid (Enc w2 B a v' (coded e xs[j] 0)):=by
  show Enc _ _ _ _ _
  unfold coded
  rw [HBV.out]
  show Enc _ _ _ _ (Rc.cut e bb false)
  exact hR
 have hne: ∀ {W:World} {v2:Value} {l2:Rc.Lo} {R2:Nat},En W B a v2 l2 R2→St W B' s u xs→ ∀z,Foot a v2 z→z≠s∧u.ownBlock≠some z:=fun hE hS z f=>by
  rcases f with rfl|f
  ·refine⟨fun e=> ?_,fun e=> ?_⟩
   ·have h1:=hE.blk
    rw [e]at h1
    exact ty_ne h1 hS.blk (by decide)
   ·obtain⟨cur,hcur⟩:=owns_blk hS.own e
    exact ty_ne hE.blk hcur (by decide)
  ·obtain⟨c1,h1⟩:=owns_blk hE.own f
   refine⟨fun e=> ?_,fun e=> ?_⟩
   ·rw [e]at h1
    exact ty_ne h1 hS.blk (by decide)
   ·obtain⟨cur,hcur⟩:=owns_blk hS.own e
    exact ty_ne h1 hcur (by decide)
 have HS2:Hid (St w2 B' s u xs):=HS.out.keep HC2.out (fun f=>(hne HE.out HS.out _ f).1 rfl) (fun g e f=>(hne HE.out HS.out _ f).2 e)
 clear hR hC hM hne k4 HE HS f4 HS4 HC4
 go_wp2_with fail
 refine(turn_in B' s u xs j 0 _ HS2.out HIN.out HJ.out).mono ?_
 rintro x w3 ⟨rfl,h3,c3⟩
 have HR3:Hid (Enc w3 B a v' (coded e xs[j] 0)):=by
  obtain⟨l3,hE3,hI3⟩:=HR.out
  refine⟨l3,hE3.keep c3 (fun f=> ?_) (fun g e f=> ?_),hI3⟩
  ·obtain⟨cur,hcur⟩:=owns_blk HS2.out.own f
   exact ty_ne hE3.blk hcur (by decide)
  ·obtain⟨c1,h1⟩:=owns_blk hE3.own e
   obtain⟨c2,h2⟩:=owns_blk HS2.out.own f
   exact ty_ne h1 h2 (by decide)
 have H3:Hid (St w3 B' s u (xs.set j (Prob.nx xs[j] 0))):=h3
 have HC3:Hid (Chg (fun z=>Foot a v z∨u.ownBlock=some z) w w3):=(HC2.out.mono (T:=fun z=>Foot a v z∨u.ownBlock=some z) (fun _ e=> .inl (.inl e))).trans c3 (fun _ e=> .inl (.inr e))
 clear h3 c3 HR HC2 HS2
 go_wp2
 go_ret
 exact⟨rfl,v',HR3.out,H3.out,HC3.out,HM2.out⟩
set_option maxHeartbeats 2000000 in
set_option maxRecDepth 100000 in
theorem bit_one (B B' a s:Nat)(u v:Value)(xs:List Int)(j:Nat)(t:Int)(e:Rc.E)(w:World)(hS:St w B' s u xs)(hI:In31 xs)(hj:j<xs.length)(h:Enc w B a v e)(hO:Rc.Ok e)(hk:e.k+1≤140737488355328)(hB:B≤w.heap.size)(ht:t≠0):
  Calls Tryz.prog 209 #[.pointer (some ⟨a,0,none⟩),.pointer (some ⟨s,0,none⟩),.int .i64 j,.int .i64 t] w fun x w'=>x= .returned (.int .i64 0)∧ ∃v',Enc w' B a v' (coded e xs[j] t)∧St w' B' s u (xs.set j (Prob.nx xs[j] t))∧Chg (fun z=>Foot a v z∨u.ownBlock=some z) w w'∧Moved w v v':=by
 have hp:=hI.at j hj
 have hbn:=bo_nat (R:=e.R) hp.1 hp.2
 have HBB:Hid (65536≤e.R/2048*xs[j].toNat∧e.R/2048*xs[j].toNat+65536≤e.R):=Rc.bound_in (R:=e.R) (p:=xs[j].toNat) hO.lo (by omega) (by omega)
 have hi:=hO.hi
 have HI:Hid (e.R≤4294967295):=hi
 obtain⟨l,hE,hIs⟩:=h
 have k4:=(cells5e hE.blk).2.2.2.2.1
 have f4:=(cells5e hE.blk).2.2.2.2.2 4
 have HE:Hid (En w B a v l e.R):=hE
 have HIs:Hid (Rc.Is l e):=hIs
 have HS:Hid (St w B' s u xs):=hS
 have HP:Hid (I64 xs[j]):=(show I64 _ from⟨by omega,by omega⟩)
 have HO:Hid (Rc.Ok e):=hO
 have HK:Hid (e.k+1≤140737488355328):=hk
 have HB0:Hid (B≤w.heap.size):=hB
 have HJ:Hid (j<xs.length):=hj
 have HIN:Hid (In xs):=hI.inn
 obtain⟨z,hz⟩: ∃z:Int,z=(e.R:Int):=⟨_,rfl⟩
 have HZ:Hid (z=(e.R:Int)):=hz
 have HBN:Hid (Prob.bo z xs[j]=((e.R/2048*xs[j].toNat:Nat):Int)):=by show _=_;rw [hz];exact hbn
 have HUz:Hid (U32 z):=by show U32 z;rw [hz];exact⟨by omega,by omega⟩
 have z1:0≤z:=by omega
 have z2:z≤4294967295:=by omega
 rw [←hz]at k4
 clear hE hIs hS hbn hp hi hO hk hB hz
 obtain⟨p,hp⟩: ∃p:Int,p=xs[j]:=⟨_,rfl⟩
 have HPP:Hid (p=xs[j]):=hp
 have HAt:Hid (∀w2,w2=w→Calls Tryz.prog 159 #[.pointer (some ⟨s,0,none⟩),.int .i64 j] w2 fun x w'=>x= .returned (.tuple #[.int .i64 p,.int .i64 0])∧w2=w'):=fun w2 e2=>by
  subst e2
  rw [hp]
  exact at_in B' s u xs j _ HS.out HIN.out HJ.out
 have HBd:Hid (∀w2,Calls Tryz.prog 163 #[.int .u32 z,.int .i64 p] w2 fun x w'=>x= .returned (.int .u32 ((e.R/2048*xs[j].toNat:Nat):Int))∧w2=w'):=fun w2=>by
  have:=bound_any z p w2 HUz.out (by rw [hp];exact HP.out)
  rw [hp,HBN.out]at this
  rw [hp]
  exact this
 clear hp hI
 have ht2:decide (t=0)=false:=by simp;exact ht
 go_enter Tryz.func209,Tryz.ntmps209
 go_wp2_with fail
 refine(HAt.out _ rfl).mono ?_
 rintro x w1 ⟨rfl,rfl⟩
 go_wp2_with fail
 refine(HBd.out _).mono ?_
 rintro x w1 ⟨rfl,rfl⟩
 generalize hbv:e.R/2048*xs[j].toNat=bb at*
 have HBV:Hid (e.R/2048*xs[j].toNat=bb):=hbv
 have b1:(65536:Int)≤(bb:Int):=by have:=HBB.out;omega
 have b2:(bb:Int)≤z:=by have:=HBB.out;have:=HZ.out;omega
 clear hbv HAt HBd
 have bb2:(bb:Int)≤4294967295:=by omega
 go_wp2_with fail
 refine(adde_any B a v e bb (e.R-bb) e.R _ l HE.out HIs.out (by omega) (by have:=HBB.out;omega) (by have:=HBB.out;omega) HI.out HK.out HB0.out).mono ?_
 rintro x w1 ⟨rfl,v1,l1,hE1,hI1,hC1,hM1⟩
 have q4:w1.cell? ⟨a,4,none⟩=some (.int .u32 z):=by have hz:=HZ.out;rw [hz];exact(cells5e hE1.blk).2.2.2.2.1
 have g4:=(cells5e hE1.blk).2.2.2.2.2 4
 obtain⟨hS4,hC4⟩:=hE1.setR (e.R-bb) (z-(bb:Int)) (by have:=HBB.out;have:=HZ.out;omega)
 have HS4:Hid (Enc (w1.setCell ⟨a,4,none⟩ (.int .u32 (z-(bb:Int)))) B a v1 ⟨e.L+bb,e.R-bb,e.k⟩):=⟨l1,hS4,hI1⟩
 have HC4:Hid (Chg (Foot a v) w (w1.setCell ⟨a,4,none⟩ (.int .u32 (z-(bb:Int))))):=hC1.trans hC4 (fun _ e=> .inl (.inl e))
 have HM1:Hid (Moved w v v1):=hM1
 have HS1:Hid (w.heap.size≤w1.heap.size):=hC1.size
 clear hS4 hC4 hE1 hI1 hC1 hM1
 go_wp2_with fail
 refine(widen_any B a v1 ⟨e.L+bb,e.R-bb,e.k⟩ _ HS4.out (by have:=HBB.out;show _≤e.R-bb;omega) (by have:=HI.out;show e.R-bb≤_;omega) HK.out (by rw [set_size];exact Nat.le_trans HB0.out HS1.out)).mono ?_
 rintro x w2 ⟨rfl,v',hR,hC,hM⟩
 have HC2:Hid (Chg (Foot a v) w w2):=HC4.out.trans hC (fun i e=>HM1.out.foot a i e)
 have HM2:Hid (Moved w v v'):=HM1.out.trans HS1.out (fun g e=>by
  rcases hM g e with e|e
  ·exact .inl e
  ·rw [set_size]at e;exact .inr e)
 have HR:Hid (Enc w2 B a v' (coded e xs[j] t)):=by
  show Enc _ _ _ _ _
  unfold coded
  rw [HBV.out]
  rw [show decide (t≠0)=true from decide_eq_true ht]
  show Enc _ _ _ _ (Rc.cut e bb true)
  exact hR
 have hne: ∀ {W:World} {v2:Value} {l2:Rc.Lo} {R2:Nat},En W B a v2 l2 R2→St W B' s u xs→ ∀z,Foot a v2 z→z≠s∧u.ownBlock≠some z:=fun hE hS z f=>by
  rcases f with rfl|f
  ·refine⟨fun e=> ?_,fun e=> ?_⟩
   ·have h1:=hE.blk
    rw [e]at h1
    exact ty_ne h1 hS.blk (by decide)
   ·obtain⟨cur,hcur⟩:=owns_blk hS.own e
    exact ty_ne hE.blk hcur (by decide)
  ·obtain⟨c1,h1⟩:=owns_blk hE.own f
   refine⟨fun e=> ?_,fun e=> ?_⟩
   ·rw [e]at h1
    exact ty_ne h1 hS.blk (by decide)
   ·obtain⟨cur,hcur⟩:=owns_blk hS.own e
    exact ty_ne h1 hcur (by decide)
 have HS2:Hid (St w2 B' s u xs):=HS.out.keep HC2.out (fun f=>(hne HE.out HS.out _ f).1 rfl) (fun g e f=>(hne HE.out HS.out _ f).2 e)
 clear hR hC hM hne k4 HE HS f4 HS4 HC4 q4 g4
 go_wp2_with fail
 refine(turn_in B' s u xs j t _ HS2.out HIN.out HJ.out).mono ?_
 rintro x w3 ⟨rfl,h3,c3⟩
 have HR3:Hid (Enc w3 B a v' (coded e xs[j] t)):=by
  obtain⟨l3,hE3,hI3⟩:=HR.out
  refine⟨l3,hE3.keep c3 (fun f=> ?_) (fun g e f=> ?_),hI3⟩
  ·obtain⟨cur,hcur⟩:=owns_blk HS2.out.own f
   exact ty_ne hE3.blk hcur (by decide)
  ·obtain⟨c1,h1⟩:=owns_blk hE3.own e
   obtain⟨c2,h2⟩:=owns_blk HS2.out.own f
   exact ty_ne h1 h2 (by decide)
 have H3:Hid (St w3 B' s u (xs.set j (Prob.nx xs[j] t))):=h3
 have HC3:Hid (Chg (fun z=>Foot a v z∨u.ownBlock=some z) w w3):=(HC2.out.mono (T:=fun z=>Foot a v z∨u.ownBlock=some z) (fun _ e=> .inl (.inl e))).trans c3 (fun _ e=> .inl (.inr e))
 clear h3 c3 HR HC2 HS2
 go_wp2
 go_ret
 exact⟨rfl,v',HR3.out,H3.out,HC3.out,HM2.out⟩
theorem bit_in (B B' a s:Nat)(u v:Value)(xs:List Int)(j:Nat)(t:Int)(e:Rc.E)(w:World)(hS:St w B' s u xs)(hI:In31 xs)(hj:j<xs.length)(h:Enc w B a v e)(hO:Rc.Ok e)(hk:e.k+1≤140737488355328)(hB:B≤w.heap.size):
  Calls Tryz.prog 209 #[.pointer (some ⟨a,0,none⟩),.pointer (some ⟨s,0,none⟩),.int .i64 j,.int .i64 t] w fun x w'=>x= .returned (.int .i64 0)∧ ∃v',Enc w' B a v' (coded e xs[j] t)∧St w' B' s u (xs.set j (Prob.nx xs[j] t))∧Chg (fun z=>Foot a v z∨u.ownBlock=some z) w w'∧Moved w v v':=by
 by_cases ht:t=0
 ·subst ht
  exact bit_zero B B' a s u v xs j e w hS hI hj h hO hk hB
 ·exact bit_one B B' a s u v xs j t e w hS hI hj h hO hk hB ht
end Go.Proofs.YthideplpcnhncaaGreatDoor
namespace Go.Proofs.YthideplpcnhncaaGreatDoor
open Go.RowKit
set_option linter.unusedVariables false
def direct (x:Nat):Nat→Rc.E→Rc.E
 |0,e=>e
 |m+1,e=>direct x m (Rc.half e (decide (x/2^m% 2=1)))
end Go.Proofs.YthideplpcnhncaaGreatDoor
namespace Go.Proofs.YthideplpcnhncaaGreatDoor
open Go.RowKit
set_option linter.unusedVariables false
theorem bit_at (m i:Nat)(hm:m<4294967296):bits .and .u32 ((m:Int)/2^i) 1=((m/2^i% 2:Nat):Int):=by
 have e:((m:Int)/2^i)=((m/2^i:Nat):Int):=by simp
 rw [e,show(1:Int)=((1:Nat):Int)from rfl,u32_and_nat _ 1 (Nat.lt_of_le_of_lt (Nat.div_le_self _ _) hm) (by decide)]
 congr 1
 exact Nat.and_one_is_mod _
theorem half_k_le (e:Rc.E)(one:Bool):e.k≤(Rc.half e one).k∧(Rc.half e one).k≤e.k+1:=by
 rw [Rc.half_k]
 split<;>omega
theorem direct_k (x:Nat): ∀(m:Nat) (e:Rc.E),e.k≤(direct x m e).k
 |0,e=>Nat.le_refl _
 |m+1,e=>Nat.le_trans (half_k_le e _).1 (direct_k x m _)
theorem direct_k_le (x:Nat): ∀(m:Nat) (e:Rc.E),(direct x m e).k≤e.k+m
 |0,e=>Nat.le_refl _
 |m+1,e=>by
  have h1:=(half_k_le e (decide (x/2^m% 2=1))).2
  have h2:=direct_k_le x m (Rc.half e (decide (x/2^m% 2=1)))
  show(direct x m _).k≤_
  omega
theorem half_is {l:Rc.Lo}{f:Rc.E}(h:Rc.Is l f):Rc.Is l ⟨f.L,f.R/2,f.k⟩:=h.less (by omega)
set_option maxHeartbeats 2000000 in
set_option maxRecDepth 100000 in
theorem direct_in (B a:Nat)(v:Value)(e:Rc.E)(x n:Nat)(w0:World)(h:Enc w0 B a v e)(hO:Rc.Ok e)(hx:x≤4294967295)(hn:n≤32)(hk:(direct x n e).k+1≤140737488355328)(hB:B≤w0.heap.size):
  Calls Tryz.prog 210 #[.pointer (some ⟨a,0,none⟩),.int .u32 (x:Int),.int .i64 (n:Int)] w0 fun y w'=>y= .returned (.int .i64 0)∧ ∃v',Enc w' B a v' (direct x n e)∧Chg (Foot a v) w0 w'∧Moved w0 v v':=by
 have hd:decide ((n:Int)<0)=false:=by simp
 have hd32:decide ((32:Int)<(n:Int))=false:=by simp;omega
 have HH:Hid (Enc w0 B a v e):=h
 have HKK:Hid ((direct x n e).k+1≤140737488355328):=hk
 clear h hk
 go_enter Tryz.func210,Tryz.ntmps210
 go_wp2_with fail
 go_loopw [7] (fun iv wr=> ∃(m:Nat) (f:Rc.E) (v':Value),m≤n∧iv= .int .i64 ((m:Int)-1)∧Enc wr B a v' f∧Rc.Ok f∧Hid (direct x m f=direct x n e)∧Chg (Foot a v) w0 wr∧Moved w0 v v') (fun iv _=>(intOf iv+1).toNat)
 case atStart=>exact⟨n,e,v,Nat.le_refl _,rfl,HH.out,hO,rfl,Chg.refl _ _,Moved.refl _ _⟩
 case round=>
  clear HH
  obtain⟨m,f,v',hm,rfl,hR,hOf,HD,hC,hM⟩:=hrel
  cases m with
  |zero=>
   have e1:f=direct x n e:=HD.out
   rw [e1]at hR
   have HR:Hid (Enc wr B a v' (direct x n e)):=hR
   clear hR e1 HD hOf
   go_wp2
   go_ret
   exact⟨rfl,v',HR.out,hC,hM⟩
  |succ j=>
   have hkf:f.k≤(direct x n e).k:=by rw [←HD.out];exact direct_k x (j+1) f
   have HKF:Hid (f.k+1≤140737488355328):=by have:=HKK.out;show f.k+1≤_;omega
   obtain⟨l,hE,hI⟩:=hR
   have k4:=(cells5e hE.blk).2.2.2.2.1
   have f4:=(cells5e hE.blk).2.2.2.2.2 4
   have hlo:=hOf.lo
   have hhi:=hOf.hi
   have HLO:Hid (16777216≤f.R∧f.R≤4294967295):=⟨hlo,hhi⟩
   obtain⟨q,hq⟩: ∃q:Int,q=(f.R:Int)/2:=⟨_,rfl⟩
   obtain⟨z,hz⟩: ∃z:Int,z=(f.R:Int):=⟨_,rfl⟩
   have HQ:Hid (q=((f.R/2:Nat):Int)):=by show _=_;omega
   have hzq:z/2=q:=by rw [hz,hq]
   have z1:16777216≤z:=by omega
   have z2:z≤4294967295:=by omega
   have q1:0≤q:=by omega
   have q2:q≤4294967295:=by omega
   rw [←hz]at k4
   obtain⟨hS,hCs⟩:=hE.setR (f.R/2) q HQ.out
   have HS:Hid (En (wr.setCell ⟨a,4,none⟩ (.int .u32 q)) B a v' l (f.R/2)):=hS
   have q4:(wr.setCell ⟨a,4,none⟩ (.int .u32 q)).cell? ⟨a,4,none⟩=some (.int .u32 q):=by
    have h3:=(cells5e hS.blk).2.2.2.2.1
    rw [←HQ.out]at h3
    exact h3
   have HI:Hid (Rc.Is l f):=hI
   have HCs:Hid (Chg (Foot a v') wr (wr.setCell ⟨a,4,none⟩ (.int .u32 q))):=hCs.mono (fun _ e=> .inl (.inl e))
   have HC:Hid (Chg (Foot a v) w0 wr):=hC
   have HM:Hid (Moved w0 v v'):=hM
   have HBW:Hid (B≤wr.heap.size):=Nat.le_trans hB hC.size
   have HOF:Hid (Rc.Ok f):=hOf
   clear hC hM hE hI hS hCs hlo hhi hz hq hOf hkf
   have hT:=bit_at x j (by omega)
   have hj31:j<32:=by omega
   by_cases hb:x/2^j% 2=1
   ·have hT1:bits .and .u32 ((x:Int)/2^j) 1=1:=by rw [hT,hb];rfl
    have HD2:Hid (direct x j (Rc.half f true)=direct x n e):=by
     have h1:direct x j (Rc.half f (decide (x/2^j% 2=1)))=direct x n e:=HD.out
     rw [show decide (x/2^j% 2=1)=true from decide_eq_true hb]at h1
     exact h1
    clear hb hT HD
    have ej:((j+1:Nat):Int)-1=(j:Int):=by omega
    rw [ej]
    clear ej
    go_wp2_with fail
    simp only [hzq]
    refine wp_region_last (mk:=fun u=> #[_,_,_,_,_,_,_,_,_,_,_,_,_,_,_,_,_,_,_,_,_,_,_,_,_,_,_,_,_,_,_,_,u 32,u 33,u 34,u 35,u 36,u 37,u 38,_,_,_]) (F:=fun slot vv ww=>(look [(32,.val (.pointer (some ⟨a,0,none⟩))),(33,.val (.pointer (some ⟨a,0,none⟩))),(34,.val (.pointer (some ⟨a,0,none⟩))),(35,.val (.pointer (some ⟨a,0,none⟩))),(36,.val (.pointer (some ⟨a,0,none⟩))),(37,.val (.pointer (some ⟨a,4,none⟩))),(38,.val (.int .u32 q))] slot).holds vv ww) (fun slot=>match slot with|32=>u32|33=>u33|34=>u34|35=>u35|36=>u36|37=>u37|38=>u38|_=>undef) rfl (by kernel_rfl) 7 _ rfl rfl (by kernel_rfl) ?_ (fun _ v w w' hc h=>Fact.stays _ v w w' hc h) ?_ ?_
    ·repeat (refine⟨⟨_,rfl,fun _ _=>rfl⟩,?_⟩)
     exact trivial
    ·refine⟨?_,?_,?_,?_,?_,?_,?_,trivial⟩
     ·intro u w hc hd K hK
      clear hd
      go_simp
      exact hK.out (.pointer (some ⟨a,0,none⟩)) w (Chg.refl _ _) rfl
     ·intro u w hc hd K hK
      have h32:(Fact.val (.pointer (some ⟨a,0,none⟩))).holds (u 32) w:=hd.get 0 (by kernel_rfl)
      simp only [Fact.holds]at h32
      clear hd
      simp only [h32]at hK
      go_simp
      exact hK.out (.pointer (some ⟨a,0,none⟩)) w (Chg.refl _ _) rfl
     ·intro u w hc hd K hK
      have h33:(Fact.val (.pointer (some ⟨a,0,none⟩))).holds (u 33) w:=hd.get 1 (by kernel_rfl)
      simp only [Fact.holds]at h33
      clear hd
      simp only [h33]at hK
      go_simp
      exact hK.out (.pointer (some ⟨a,0,none⟩)) w (Chg.refl _ _) rfl
     ·intro u w hc hd K hK
      clear hd
      go_simp
      exact hK.out (.pointer (some ⟨a,0,none⟩)) w (Chg.refl _ _) rfl
     ·intro u w hc hd K hK
      have h35:(Fact.val (.pointer (some ⟨a,0,none⟩))).holds (u 35) w:=hd.get 3 (by kernel_rfl)
      simp only [Fact.holds]at h35
      clear hd
      simp only [h35]at hK
      go_simp
      exact hK.out (.pointer (some ⟨a,0,none⟩)) w (Chg.refl _ _) rfl
     ·intro u w hc hd K hK
      have h36:(Fact.val (.pointer (some ⟨a,0,none⟩))).holds (u 36) w:=hd.get 4 (by kernel_rfl)
      simp only [Fact.holds]at h36
      clear hd
      simp only [h36]at hK
      go_simp
      exact hK.out (.pointer (some ⟨a,4,none⟩)) w (Chg.refl _ _) rfl
     ·intro u w hc hd K hK
      have h37:(Fact.val (.pointer (some ⟨a,4,none⟩))).holds (u 37) w:=hd.get 5 (by kernel_rfl)
      simp only [Fact.holds]at h37
      clear hd
      simp only [h37]at hK
      have hcell:=cell_chg q4 hc
      go_simp
      exact hK.out _ _ (Chg.refl _ _) rfl
    ·intro u w hc hA K hK
     have e34:u 34= .pointer (some ⟨a,0,none⟩):=hA.at 34 (by kernel_rfl)
     have e38:u 38= .int .u32 q:=hA.at 38 (by kernel_rfl)
     clear hA
     go_simp
     go_at_call 214
     have hE2:=HS.out.new hc
     have hs2:=hc.size
     rw [set_size]at hs2
     have hQ:=HQ.out
     rw [hQ]
     refine(adde_any B a v' f (f.R/2) (f.R/2) (f.R/2) _ l hE2 HI.out (by have:=HLO.out;omega) (by omega) (by have:=HLO.out;omega) HLO.out.2 HKF.out (by have:=HBW.out;omega)).mono ?_
     rintro y w3 ⟨rfl,v3,l3,hE3,hI3,hC3,hM3⟩
     have H3:Hid (Enc w3 B a v3 ⟨f.L+f.R/2,f.R/2,f.k⟩):=⟨l3,hE3,hI3⟩
     have HC3:Hid (Chg (Foot a v') wr w3):=(HCs.out.trans hc (fun _ f=>f.elim)).trans hC3 (fun _ e=> .inl e)
     have HM3:Hid (Moved wr v' v3):=moved_from hs2 hM3
     have HS3:Hid (wr.heap.size≤w3.heap.size):=HC3.out.size
     clear hE2 hE3 hI3 hC3 hM3 hc hQ hs2
     go_simp
     refine hK.out _ _ ?_
     clear hK
     go_wp2_with fail
     refine(widen_any B a v3 ⟨f.L+f.R/2,f.R/2,f.k⟩ _ H3.out (by have:=HLO.out;show _≤f.R/2;omega) (by have:=HLO.out;show f.R/2≤_;omega) HKF.out (by have:=HBW.out;have:=HS3.out;omega)).mono ?_
     rintro y w4 ⟨rfl,v4,h4,c4,m4⟩
     have H4:Hid (Enc w4 B a v4 (Rc.half f true)):=h4
     have HX:Hid (Chg (Foot a v) w0 w4∧Moved w0 v v4):=by
      have s1:=foot_step HC.out HM.out HC3.out HM3.out
      exact foot_step s1.1 s1.2 c4 m4
     clear h4 c4 m4 H3 HC3 HC HM
     go_wp2
     go_roundw
     case rel=>exact⟨j,Rc.half f true,v4,by omega,by go_num,H4.out,Rc.half_ok HOF.out true,HD2.out,HX.out.1,HX.out.2⟩
     case measure=>simp [intOf]
   ·have hb0:x/2^j% 2=0:=by omega
    have hT1:bits .and .u32 ((x:Int)/2^j) 1=0:=by rw [hT,hb0];rfl
    have HD2:Hid (direct x j (Rc.half f false)=direct x n e):=by
     have h1:direct x j (Rc.half f (decide (x/2^j% 2=1)))=direct x n e:=HD.out
     rw [show decide (x/2^j% 2=1)=false from decide_eq_false hb]at h1
     exact h1
    have H3:Hid (Enc (wr.setCell ⟨a,4,none⟩ (.int .u32 q)) B a v' ⟨f.L,f.R/2,f.k⟩):=⟨l,HS.out,half_is HI.out⟩
    clear hb hb0 hT HD
    go_wp2_with fail
    refine(widen_any B a v' ⟨f.L,f.R/2,f.k⟩ _ H3.out (by have:=HLO.out;show _≤f.R/2;omega) (by have:=HLO.out;show f.R/2≤_;omega) HKF.out (by rw [set_size];exact HBW.out)).mono ?_
    rintro y w4 ⟨rfl,v4,h4,c4,m4⟩
    have H4:Hid (Enc w4 B a v4 (Rc.half f false)):=h4
    have HX:Hid (Chg (Foot a v) w0 w4∧Moved w0 v v4):=foot_step HC.out HM.out (HCs.out.trans c4 (fun _ e=> .inl e)) (moved_from (by rw [set_size];exact Nat.le_refl _) m4)
    clear h4 c4 m4 HS HCs HC HM H3 k4 f4 q4
    go_wp2
    go_roundw
    case rel=>exact⟨j,Rc.half f false,v4,by omega,by go_num,H4.out,Rc.half_ok HOF.out false,HD2.out,HX.out.1,HX.out.2⟩
    case measure=>simp [intOf]
end Go.Proofs.YthideplpcnhncaaGreatDoor
