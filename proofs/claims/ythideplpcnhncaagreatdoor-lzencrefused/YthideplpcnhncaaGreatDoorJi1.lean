/- Of no statement by itself: Ji1 (without blanks and remarks). -/
import Derived.Test.YthideplpcnhncaaGreatDoorB20Pf
namespace Go.Proofs.YthideplpcnhncaaGreatDoor
open Go.RowKit
open St12 Sy13 Lz14
set_option linter.unusedVariables false
set_option linter.unusedSimpArgs false
variable {T:TypeId} {rv:Value} {fb ft fk fd B a:Nat} {D:Dir} {V:Lst} {wa:Nat} {vw:Value} {ea:Nat} {X:Lz} {I:List Bt→World→Prop}
set_option maxHeartbeats 4000000 in
set_option maxRecDepth 100000 in
theorem len1low (P:PenS T rv fb ft fk fd B a D V wa vw ea X I)(l:List Bt)(w:World)(h:I l w)(ps:Nat)(hps:ps<2^X.p.pb.toNat)(hl:l.length+10≤87)(x:Nat)(hx:x<8):Calls Tryz.prog 76 #[.iface T rv,.pointer (some ⟨a,14,none⟩),.int .i64 (ps:Int),.int .i64 ((x:Int)+2)] w fun e w'=>e= .returned (.tuple #[])∧I (l++(⟨some (nChoice 1),0,0⟩::treeB (nLow 1 ps) 3 x)) w':=by
 have nb:=P.nb
 have nt:=P.nt
 have nk:=P.nk
 have mb:=P.mb
 have mt:=P.mt
 have mkk:=P.mkk
 have md:=P.md
 have eb:=P.eb
 have et:=P.et
 have ek:=P.ek
 have ed:=P.ed
 obtain⟨ve9,c9,hle⟩:=P.le h
 have xc:w.cell? ⟨a,14,none⟩=some (.pointer (some ⟨(D 11 0).1,0,none⟩)):=hle.cell 14 _ rfl
 have HPS:Hid (ps<2^X.p.pb.toNat):=hps
 have hd8:decide ((x:Int)<8)=true:=by simp;omega
 clear hle hps
 go_enter Tryz.func76,Tryz.ntmps76
 go_upto_region 2 with fail
 refine wp_region_last (mk:=fun u=> #[_,_,_,_,_,_,_,_,_,_,_,_,_,u 13,u 14,u 15,u 16,u 17,u 18,u 19,u 20,_,_,_,_,_,_,_,_,_,_,_,_,_,_,_,_,_,_,_,_,_,_,_,_,_,_,_,_,_,_,_,_,_,_,_,_,_,_,_,_,_,_,_,_,_,_,_,_,_,_,_,_,_,_,_,_,_,_,_,_,_,_,_,_,_,_,_,_]) (F:=fun slot vv ww=>(look [(13,.val (.iface T rv)),(14,.val (.pointer (some ⟨a,14,none⟩))),(15,.val (.pointer (some ⟨a,14,none⟩))),(16,.val (.pointer (some ⟨a,14,none⟩))),(17,.val (.pointer (some ⟨(D 11 0).1,0,none⟩))),(18,.val (.func (.method "pith/lzenc.bit") #[.iface T rv] #[])),(19,.val (.func (.method "pith/lzenc.bit") #[.iface T rv] #[])),(20,.val (.iface T rv))] slot).holds vv ww) (fun _=>undef) rfl (by kernel_rfl) 8 _ rfl rfl (by kernel_rfl) ?_ (fun _ v w w' hc h=>Fact.stays _ v w w' hc h) ?_ ?_
 ·repeat (refine⟨⟨_,rfl,fun _ _=>rfl⟩,?_⟩)
  exact trivial
 ·refine⟨?_,?_,?_,?_,?_,?_,?_,?_,trivial⟩
  ·intro u w_ hc hd K hK
   clear hd
   go_simp
   exact hK.out _ _ (Chg.refl _ _) rfl
  ·intro u w_ hc hd K hK
   clear hd
   go_simp
   exact hK.out _ _ (Chg.refl _ _) rfl
  ·intro u w_ hc hd K hK
   have h14:(Fact.val (.pointer (some ⟨a,14,none⟩))).holds (u 14) w_:=hd.get 1 (by kernel_rfl)
   simp only [Fact.holds]at h14
   clear hd
   simp only [h14]at hK
   go_simp
   exact hK.out _ _ (Chg.refl _ _) rfl
  ·intro u w_ hc hd K hK
   have h15:(Fact.val (.pointer (some ⟨a,14,none⟩))).holds (u 15) w_:=hd.get 2 (by kernel_rfl)
   simp only [Fact.holds]at h15
   clear hd
   simp only [h15]at hK
   go_simp
   exact hK.out _ _ (Chg.refl _ _) rfl
  ·intro u w_ hc hd K hK
   have h16:(Fact.val (.pointer (some ⟨a,14,none⟩))).holds (u 16) w_:=hd.get 3 (by kernel_rfl)
   simp only [Fact.holds]at h16
   clear hd
   simp only [h16]at hK
   have hcell:=cell_chg xc hc
   go_simp
   exact hK.out _ _ (Chg.refl _ _) rfl
  ·intro u w_ hc hd K hK
   have h13:(Fact.val (.iface T rv)).holds (u 13) w_:=hd.get 0 (by kernel_rfl)
   simp only [Fact.holds]at h13
   clear hd
   simp only [h13]at hK
   go_simp
   exact hK.out _ _ (Chg.refl _ _) rfl
  ·intro u w_ hc hd K hK
   have h18:(Fact.val (.func (.method "pith/lzenc.bit") #[.iface T rv] #[])).holds (u 18) w_:=hd.get 5 (by kernel_rfl)
   simp only [Fact.holds]at h18
   clear hd
   simp only [h18]at hK
   go_simp
   exact hK.out _ _ (Chg.refl _ _) rfl
  ·intro u w_ hc hd K hK
   have h13:(Fact.val (.iface T rv)).holds (u 13) w_:=hd.get 0 (by kernel_rfl)
   simp only [Fact.holds]at h13
   clear hd
   simp only [h13]at hK
   go_simp
   exact hK.out _ _ (Chg.refl _ _) rfl
 ·intro u w_ hc hA K hK
  have e20:u 20=(.iface T rv):=hA.at 20 (by kernel_rfl)
  have e17:u 17=(.pointer (some ⟨(D 11 0).1,0,none⟩)):=hA.at 17 (by kernel_rfl)
  clear hA
  simp only [e20,e17]at hK⊢
  go_simp
  refine Calls.mono (P.bit l w_ 11 0 0 0 (P.new h hc) (by omega) (by show 0<1;omega) (by show 0<2;omega) (by omega) (by simp;omega)) ?_
  rintro z w2 ⟨rfl,h2⟩
  clear hc
  refine hK.out _ _ ?_
  clear hK
  go_wp2_with fail
  clear xc
  obtain⟨ve9,c9,hle⟩:=P.le h2
  obtain⟨gl,kl,el,cl⟩:=hle.ptr 12 (by omega) rfl ps HPS.out
  have xl:w2.cell? ⟨a,15,none⟩=some (.slice (some ⟨gl,0,none⟩) (cntS X.p 12) kl):=(hle.cell 15 _ rfl).trans (congrArg some el)
  clear el
  have hcn:ps<cntS X.p 12:=HPS.out
  have hcn2:((ps:Int)<(cntS X.p 12:Int)):=by omega
  generalize cntS X.p 12=cn at*
  clear hle
  refine wp_region_last (mk:=fun u=> #[_,_,_,_,_,_,_,_,_,_,_,_,_,_,_,_,_,_,_,_,_,_,u 22,u 23,u 24,u 25,u 26,u 27,u 28,u 29,u 30,u 31,u 32,u 33,_,_,_,_,_,_,_,_,_,_,_,_,_,_,_,_,_,_,_,_,_,_,_,_,_,_,_,_,_,_,_,_,_,_,_,_,_,_,_,_,_,_,_,_,_,_,_,_,_,_,_,_,_,_,_]) (F:=fun slot vv ww=>(look [(22,.val (.iface T rv)),(23,.val (.pointer (some ⟨a,14,none⟩))),(24,.val (.pointer (some ⟨a,14,none⟩))),(25,.val (.pointer (some ⟨a,15,none⟩))),(26,.val (.slice (some ⟨gl,0,none⟩) cn kl)),(27,.val (.int .i64 (ps:Int))),(28,.val (.pointer (some ⟨gl,ps,none⟩))),(29,.val (.pointer (some ⟨(D 12 ps).1,0,none⟩))),(30,.val (.int .i64 (x:Int))),(31,.val (.func (.method "pith/lzenc.tree") #[.iface T rv] #[])),(32,.val (.func (.method "pith/lzenc.tree") #[.iface T rv] #[])),(33,.val (.iface T rv))] slot).holds vv ww) (fun _=>undef) rfl (by kernel_rfl) 12 _ rfl rfl (by kernel_rfl) ?_ (fun _ v w w' hc h=>Fact.stays _ v w w' hc h) ?_ ?_
  ·repeat (refine⟨⟨_,rfl,fun _ _=>rfl⟩,?_⟩)
   exact trivial
  ·refine⟨?_,?_,?_,?_,?_,?_,?_,?_,?_,?_,?_,?_,trivial⟩
   ·intro u w_ hc hd K hK
    clear hd
    go_simp
    exact hK.out _ _ (Chg.refl _ _) rfl
   ·intro u w_ hc hd K hK
    clear hd
    go_simp
    exact hK.out _ _ (Chg.refl _ _) rfl
   ·intro u w_ hc hd K hK
    have h23:(Fact.val (.pointer (some ⟨a,14,none⟩))).holds (u 23) w_:=hd.get 1 (by kernel_rfl)
    simp only [Fact.holds]at h23
    clear hd
    simp only [h23]at hK
    go_simp
    exact hK.out _ _ (Chg.refl _ _) rfl
   ·intro u w_ hc hd K hK
    have h24:(Fact.val (.pointer (some ⟨a,14,none⟩))).holds (u 24) w_:=hd.get 2 (by kernel_rfl)
    simp only [Fact.holds]at h24
    clear hd
    simp only [h24]at hK
    go_simp
    exact hK.out _ _ (Chg.refl _ _) rfl
   ·intro u w_ hc hd K hK
    have h25:(Fact.val (.pointer (some ⟨a,15,none⟩))).holds (u 25) w_:=hd.get 3 (by kernel_rfl)
    simp only [Fact.holds]at h25
    clear hd
    simp only [h25]at hK
    have hcell:=cell_chg xl hc
    go_simp
    exact hK.out _ _ (Chg.refl _ _) rfl
   ·intro u w_ hc hd K hK
    clear hd
    go_simp
    exact hK.out _ _ (Chg.refl _ _) rfl
   ·intro u w_ hc hd K hK
    have h26:(Fact.val (.slice (some ⟨gl,0,none⟩) cn kl)).holds (u 26) w_:=hd.get 4 (by kernel_rfl)
    simp only [Fact.holds]at h26
    have h27:(Fact.val (.int .i64 (ps:Int))).holds (u 27) w_:=hd.get 5 (by kernel_rfl)
    simp only [Fact.holds]at h27
    clear hd
    simp only [h26,h27]at hK
    go_simp
    exact hK.out _ _ (Chg.refl _ _) rfl
   ·intro u w_ hc hd K hK
    have h28:(Fact.val (.pointer (some ⟨gl,ps,none⟩))).holds (u 28) w_:=hd.get 6 (by kernel_rfl)
    simp only [Fact.holds]at h28
    clear hd
    simp only [h28]at hK
    have hcell:=cell_chg cl hc
    go_simp
    exact hK.out _ _ (Chg.refl _ _) rfl
   ·intro u w_ hc hd K hK
    clear hd
    go_simp
    exact hK.out _ _ (Chg.refl _ _) rfl
   ·intro u w_ hc hd K hK
    have h22:(Fact.val (.iface T rv)).holds (u 22) w_:=hd.get 0 (by kernel_rfl)
    simp only [Fact.holds]at h22
    clear hd
    simp only [h22]at hK
    go_simp
    exact hK.out _ _ (Chg.refl _ _) rfl
   ·intro u w_ hc hd K hK
    have h31:(Fact.val (.func (.method "pith/lzenc.tree") #[.iface T rv] #[])).holds (u 31) w_:=hd.get 9 (by kernel_rfl)
    simp only [Fact.holds]at h31
    clear hd
    simp only [h31]at hK
    go_simp
    exact hK.out _ _ (Chg.refl _ _) rfl
   ·intro u w_ hc hd K hK
    have h22:(Fact.val (.iface T rv)).holds (u 22) w_:=hd.get 0 (by kernel_rfl)
    simp only [Fact.holds]at h22
    clear hd
    simp only [h22]at hK
    go_simp
    exact hK.out _ _ (Chg.refl _ _) rfl
  ·intro u w_ hc hA K hK
   have e33:u 33=(.iface T rv):=hA.at 33 (by kernel_rfl)
   have e29:u 29=(.pointer (some ⟨(D 12 ps).1,0,none⟩)):=hA.at 29 (by kernel_rfl)
   have e30:u 30=(.int .i64 (x:Int)):=hA.at 30 (by kernel_rfl)
   clear hA
   simp only [e33,e29,e30]at hK⊢
   go_simp
   refine Calls.mono (P.tree _ w_ 12 ps 3 x (P.new h2 hc) (by unfold Lz14.lone;omega) HPS.out (by omega) (by show 8≤8;omega) (by show x<8;omega) (by simp;omega)) ?_
   rintro z w3 ⟨rfl,h3⟩
   clear hc
   refine hK.out _ _ ?_
   clear hK
   go_wp2
   first|go_end0|(refine bodyPost_ret (results_none rfl _ _ _) rfl ?_)
   refine⟨rfl,?_⟩
   rw [List.append_assoc]at h3
   exact h3
set_option maxHeartbeats 4000000 in
set_option maxRecDepth 100000 in
theorem len1mid (P:PenS T rv fb ft fk fd B a D V wa vw ea X I)(l:List Bt)(w:World)(h:I l w)(ps:Nat)(hps:ps<2^X.p.pb.toNat)(hl:l.length+10≤87)(x y:Nat)(hx:x<8)(hy:y=x+8):Calls Tryz.prog 76 #[.iface T rv,.pointer (some ⟨a,14,none⟩),.int .i64 (ps:Int),.int .i64 ((y:Int)+2)] w fun e w'=>e= .returned (.tuple #[])∧I (l++(⟨some (nChoice 1),0,1⟩::⟨some (nChoice2 1),0,0⟩::treeB (nMid 1 ps) 3 x)) w':=by
 have nb:=P.nb
 have nt:=P.nt
 have nk:=P.nk
 have mb:=P.mb
 have mt:=P.mt
 have mkk:=P.mkk
 have md:=P.md
 have eb:=P.eb
 have et:=P.et
 have ek:=P.ek
 have ed:=P.ed
 obtain⟨ve9,c9,hle⟩:=P.le h
 have xc:w.cell? ⟨a,14,none⟩=some (.pointer (some ⟨(D 11 0).1,0,none⟩)):=hle.cell 14 _ rfl
 have HPS:Hid (ps<2^X.p.pb.toNat):=hps
 have hy1:8≤y:=by omega
 have hy2:y<8+8:=by omega
 have HYX:Hid ((y:Int)-8=(x:Int)):=by show _=_;omega
 have HYW:Hid (IntKind.i64.wrap ((y:Int)-8)=(x:Int)):=by show _=_;rw [IntKind.wrap_i64];omega
 clear hy
 have hd8:decide ((y:Int)<8)=false:=by simp;omega
 have hd16:decide ((y:Int)<16)=true:=by simp;omega
 clear hle hps
 go_enter Tryz.func76,Tryz.ntmps76
 go_upto_region 4 with fail
 refine wp_region_last (mk:=fun u=> #[_,_,_,_,_,_,_,_,_,_,_,_,_,_,_,_,_,_,_,_,_,_,_,_,_,_,_,_,_,_,_,_,_,_,_,u 35,u 36,u 37,u 38,u 39,u 40,u 41,u 42,_,_,_,_,_,_,_,_,_,_,_,_,_,_,_,_,_,_,_,_,_,_,_,_,_,_,_,_,_,_,_,_,_,_,_,_,_,_,_,_,_,_,_,_,_,_]) (F:=fun slot vv ww=>(look [(35,.val (.iface T rv)),(36,.val (.pointer (some ⟨a,14,none⟩))),(37,.val (.pointer (some ⟨a,14,none⟩))),(38,.val (.pointer (some ⟨a,14,none⟩))),(39,.val (.pointer (some ⟨(D 11 0).1,0,none⟩))),(40,.val (.func (.method "pith/lzenc.bit") #[.iface T rv] #[])),(41,.val (.func (.method "pith/lzenc.bit") #[.iface T rv] #[])),(42,.val (.iface T rv))] slot).holds vv ww) (fun _=>undef) rfl (by kernel_rfl) 8 _ rfl rfl (by kernel_rfl) ?_ (fun _ v w w' hc h=>Fact.stays _ v w w' hc h) ?_ ?_
 ·repeat (refine⟨⟨_,rfl,fun _ _=>rfl⟩,?_⟩)
  exact trivial
 ·refine⟨?_,?_,?_,?_,?_,?_,?_,?_,trivial⟩
  ·intro u w_ hc hd K hK
   clear hd
   go_simp
   exact hK.out _ _ (Chg.refl _ _) rfl
  ·intro u w_ hc hd K hK
   clear hd
   go_simp
   exact hK.out _ _ (Chg.refl _ _) rfl
  ·intro u w_ hc hd K hK
   have h36:(Fact.val (.pointer (some ⟨a,14,none⟩))).holds (u 36) w_:=hd.get 1 (by kernel_rfl)
   simp only [Fact.holds]at h36
   clear hd
   simp only [h36]at hK
   go_simp
   exact hK.out _ _ (Chg.refl _ _) rfl
  ·intro u w_ hc hd K hK
   have h37:(Fact.val (.pointer (some ⟨a,14,none⟩))).holds (u 37) w_:=hd.get 2 (by kernel_rfl)
   simp only [Fact.holds]at h37
   clear hd
   simp only [h37]at hK
   go_simp
   exact hK.out _ _ (Chg.refl _ _) rfl
  ·intro u w_ hc hd K hK
   have h38:(Fact.val (.pointer (some ⟨a,14,none⟩))).holds (u 38) w_:=hd.get 3 (by kernel_rfl)
   simp only [Fact.holds]at h38
   clear hd
   simp only [h38]at hK
   have hcell:=cell_chg xc hc
   go_simp
   exact hK.out _ _ (Chg.refl _ _) rfl
  ·intro u w_ hc hd K hK
   have h35:(Fact.val (.iface T rv)).holds (u 35) w_:=hd.get 0 (by kernel_rfl)
   simp only [Fact.holds]at h35
   clear hd
   simp only [h35]at hK
   go_simp
   exact hK.out _ _ (Chg.refl _ _) rfl
  ·intro u w_ hc hd K hK
   have h40:(Fact.val (.func (.method "pith/lzenc.bit") #[.iface T rv] #[])).holds (u 40) w_:=hd.get 5 (by kernel_rfl)
   simp only [Fact.holds]at h40
   clear hd
   simp only [h40]at hK
   go_simp
   exact hK.out _ _ (Chg.refl _ _) rfl
  ·intro u w_ hc hd K hK
   have h35:(Fact.val (.iface T rv)).holds (u 35) w_:=hd.get 0 (by kernel_rfl)
   simp only [Fact.holds]at h35
   clear hd
   simp only [h35]at hK
   go_simp
   exact hK.out _ _ (Chg.refl _ _) rfl
 ·intro u w_ hc hA K hK
  have e42:u 42=(.iface T rv):=hA.at 42 (by kernel_rfl)
  have e39:u 39=(.pointer (some ⟨(D 11 0).1,0,none⟩)):=hA.at 39 (by kernel_rfl)
  clear hA
  simp only [e42,e39]at hK⊢
  go_simp
  refine Calls.mono (P.bit l w_ 11 0 0 1 (P.new h hc) (by omega) (by show 0<1;omega) (by show 0<2;omega) (by omega) (by simp;omega)) ?_
  rintro z w2 ⟨rfl,h2⟩
  clear hc
  refine hK.out _ _ ?_
  clear hK
  go_wp2_with fail
  clear xc
  obtain⟨ve9,c9,hle⟩:=P.le h2
  have xc:w2.cell? ⟨a,14,none⟩=some (.pointer (some ⟨(D 11 0).1,0,none⟩)):=hle.cell 14 _ rfl
  clear hle
  refine wp_region_last (mk:=fun u=> #[_,_,_,_,_,_,_,_,_,_,_,_,_,_,_,_,_,_,_,_,_,_,_,_,_,_,_,_,_,_,_,_,_,_,_,_,_,_,_,_,_,_,_,_,_,_,u 46,u 47,u 48,u 49,u 50,u 51,u 52,u 53,_,_,_,_,_,_,_,_,_,_,_,_,_,_,_,_,_,_,_,_,_,_,_,_,_,_,_,_,_,_,_,_,_,_,_]) (F:=fun slot vv ww=>(look [(46,.val (.iface T rv)),(47,.val (.pointer (some ⟨a,14,none⟩))),(48,.val (.pointer (some ⟨a,14,none⟩))),(49,.val (.pointer (some ⟨a,14,none⟩))),(50,.val (.pointer (some ⟨(D 11 0).1,0,none⟩))),(51,.val (.func (.method "pith/lzenc.bit") #[.iface T rv] #[])),(52,.val (.func (.method "pith/lzenc.bit") #[.iface T rv] #[])),(53,.val (.iface T rv))] slot).holds vv ww) (fun _=>undef) rfl (by kernel_rfl) 8 _ rfl rfl (by kernel_rfl) ?_ (fun _ v w w' hc h=>Fact.stays _ v w w' hc h) ?_ ?_
  ·repeat (refine⟨⟨_,rfl,fun _ _=>rfl⟩,?_⟩)
   exact trivial
  ·refine⟨?_,?_,?_,?_,?_,?_,?_,?_,trivial⟩
   ·intro u w_ hc hd K hK
    clear hd
    go_simp
    exact hK.out _ _ (Chg.refl _ _) rfl
   ·intro u w_ hc hd K hK
    clear hd
    go_simp
    exact hK.out _ _ (Chg.refl _ _) rfl
   ·intro u w_ hc hd K hK
    have h47:(Fact.val (.pointer (some ⟨a,14,none⟩))).holds (u 47) w_:=hd.get 1 (by kernel_rfl)
    simp only [Fact.holds]at h47
    clear hd
    simp only [h47]at hK
    go_simp
    exact hK.out _ _ (Chg.refl _ _) rfl
   ·intro u w_ hc hd K hK
    have h48:(Fact.val (.pointer (some ⟨a,14,none⟩))).holds (u 48) w_:=hd.get 2 (by kernel_rfl)
    simp only [Fact.holds]at h48
    clear hd
    simp only [h48]at hK
    go_simp
    exact hK.out _ _ (Chg.refl _ _) rfl
   ·intro u w_ hc hd K hK
    have h49:(Fact.val (.pointer (some ⟨a,14,none⟩))).holds (u 49) w_:=hd.get 3 (by kernel_rfl)
    simp only [Fact.holds]at h49
    clear hd
    simp only [h49]at hK
    have hcell:=cell_chg xc hc
    go_simp
    exact hK.out _ _ (Chg.refl _ _) rfl
   ·intro u w_ hc hd K hK
    have h46:(Fact.val (.iface T rv)).holds (u 46) w_:=hd.get 0 (by kernel_rfl)
    simp only [Fact.holds]at h46
    clear hd
    simp only [h46]at hK
    go_simp
    exact hK.out _ _ (Chg.refl _ _) rfl
   ·intro u w_ hc hd K hK
    have h51:(Fact.val (.func (.method "pith/lzenc.bit") #[.iface T rv] #[])).holds (u 51) w_:=hd.get 5 (by kernel_rfl)
    simp only [Fact.holds]at h51
    clear hd
    simp only [h51]at hK
    go_simp
    exact hK.out _ _ (Chg.refl _ _) rfl
   ·intro u w_ hc hd K hK
    have h46:(Fact.val (.iface T rv)).holds (u 46) w_:=hd.get 0 (by kernel_rfl)
    simp only [Fact.holds]at h46
    clear hd
    simp only [h46]at hK
    go_simp
    exact hK.out _ _ (Chg.refl _ _) rfl
  ·intro u w_ hc hA K hK
   have e53:u 53=(.iface T rv):=hA.at 53 (by kernel_rfl)
   have e50:u 50=(.pointer (some ⟨(D 11 0).1,0,none⟩)):=hA.at 50 (by kernel_rfl)
   clear hA
   simp only [e53,e50]at hK⊢
   go_simp
   refine Calls.mono (P.bit _ w_ 11 0 1 0 (P.new h2 hc) (by omega) (by show 0<1;omega) (by show 1<2;omega) (by omega) (by simp;omega)) ?_
   rintro z w3 ⟨rfl,h3⟩
   clear hc
   refine hK.out _ _ ?_
   clear hK
   go_wp2_with fail
   clear xc
   obtain⟨ve9,c9,hle⟩:=P.le h3
   obtain⟨gl,kl,el,cl⟩:=hle.ptr 13 (by omega) rfl ps HPS.out
   have xl:w3.cell? ⟨a,16,none⟩=some (.slice (some ⟨gl,0,none⟩) (cntS X.p 13) kl):=(hle.cell 16 _ rfl).trans (congrArg some el)
   clear el
   have hcn:ps<cntS X.p 13:=HPS.out
   have hcn2:((ps:Int)<(cntS X.p 13:Int)):=by omega
   generalize cntS X.p 13=cn at*
   clear hle
   refine wp_region_last (mk:=fun u=> #[_,_,_,_,_,_,_,_,_,_,_,_,_,_,_,_,_,_,_,_,_,_,_,_,_,_,_,_,_,_,_,_,_,_,_,_,_,_,_,_,_,_,_,_,_,_,_,_,_,_,_,_,_,_,_,u 55,u 56,u 57,u 58,u 59,u 60,u 61,u 62,u 63,u 64,u 65,u 66,u 67,_,_,_,_,_,_,_,_,_,_,_,_,_,_,_,_,_,_,_,_,_]) (F:=fun slot vv ww=>(look [(55,.val (.iface T rv)),(56,.val (.pointer (some ⟨a,14,none⟩))),(57,.val (.pointer (some ⟨a,14,none⟩))),(58,.val (.pointer (some ⟨a,16,none⟩))),(59,.val (.slice (some ⟨gl,0,none⟩) cn kl)),(60,.val (.int .i64 (ps:Int))),(61,.val (.pointer (some ⟨gl,ps,none⟩))),(62,.val (.pointer (some ⟨(D 13 ps).1,0,none⟩))),(63,.val (.int .i64 (y:Int))),(64,.val (.int .i64 (x:Int))),(65,.val (.func (.method "pith/lzenc.tree") #[.iface T rv] #[])),(66,.val (.func (.method "pith/lzenc.tree") #[.iface T rv] #[])),(67,.val (.iface T rv))] slot).holds vv ww) (fun _=>undef) rfl (by kernel_rfl) 13 _ rfl rfl (by kernel_rfl) ?_ (fun _ v w w' hc h=>Fact.stays _ v w w' hc h) ?_ ?_
   ·repeat (refine⟨⟨_,rfl,fun _ _=>rfl⟩,?_⟩)
    exact trivial
   ·refine⟨?_,?_,?_,?_,?_,?_,?_,?_,?_,?_,?_,?_,?_,trivial⟩
    ·intro u w_ hc hd K hK
     clear hd
     go_simp
     exact hK.out _ _ (Chg.refl _ _) rfl
    ·intro u w_ hc hd K hK
     clear hd
     go_simp
     exact hK.out _ _ (Chg.refl _ _) rfl
    ·intro u w_ hc hd K hK
     have h56:(Fact.val (.pointer (some ⟨a,14,none⟩))).holds (u 56) w_:=hd.get 1 (by kernel_rfl)
     simp only [Fact.holds]at h56
     clear hd
     simp only [h56]at hK
     go_simp
     exact hK.out _ _ (Chg.refl _ _) rfl
    ·intro u w_ hc hd K hK
     have h57:(Fact.val (.pointer (some ⟨a,14,none⟩))).holds (u 57) w_:=hd.get 2 (by kernel_rfl)
     simp only [Fact.holds]at h57
     clear hd
     simp only [h57]at hK
     go_simp
     exact hK.out _ _ (Chg.refl _ _) rfl
    ·intro u w_ hc hd K hK
     have h58:(Fact.val (.pointer (some ⟨a,16,none⟩))).holds (u 58) w_:=hd.get 3 (by kernel_rfl)
     simp only [Fact.holds]at h58
     clear hd
     simp only [h58]at hK
     have hcell:=cell_chg xl hc
     go_simp
     exact hK.out _ _ (Chg.refl _ _) rfl
    ·intro u w_ hc hd K hK
     clear hd
     go_simp
     exact hK.out _ _ (Chg.refl _ _) rfl
    ·intro u w_ hc hd K hK
     have h59:(Fact.val (.slice (some ⟨gl,0,none⟩) cn kl)).holds (u 59) w_:=hd.get 4 (by kernel_rfl)
     simp only [Fact.holds]at h59
     have h60:(Fact.val (.int .i64 (ps:Int))).holds (u 60) w_:=hd.get 5 (by kernel_rfl)
     simp only [Fact.holds]at h60
     clear hd
     simp only [h59,h60]at hK
     go_simp
     exact hK.out _ _ (Chg.refl _ _) rfl
    ·intro u w_ hc hd K hK
     have h61:(Fact.val (.pointer (some ⟨gl,ps,none⟩))).holds (u 61) w_:=hd.get 6 (by kernel_rfl)
     simp only [Fact.holds]at h61
     clear hd
     simp only [h61]at hK
     have hcell:=cell_chg cl hc
     go_simp
     exact hK.out _ _ (Chg.refl _ _) rfl
    ·intro u w_ hc hd K hK
     clear hd
     go_simp
     exact hK.out _ _ (Chg.refl _ _) rfl
    ·intro u w_ hc hd K hK
     have h63:(Fact.val (.int .i64 (y:Int))).holds (u 63) w_:=hd.get 8 (by kernel_rfl)
     simp only [Fact.holds]at h63
     clear hd
     simp only [h63]at hK
     go_simp
     first|rw [HYW.out]|rw [HYX.out]
     exact hK.out _ _ (Chg.refl _ _) rfl
    ·intro u w_ hc hd K hK
     have h55:(Fact.val (.iface T rv)).holds (u 55) w_:=hd.get 0 (by kernel_rfl)
     simp only [Fact.holds]at h55
     clear hd
     simp only [h55]at hK
     go_simp
     exact hK.out _ _ (Chg.refl _ _) rfl
    ·intro u w_ hc hd K hK
     have h65:(Fact.val (.func (.method "pith/lzenc.tree") #[.iface T rv] #[])).holds (u 65) w_:=hd.get 10 (by kernel_rfl)
     simp only [Fact.holds]at h65
     clear hd
     simp only [h65]at hK
     go_simp
     exact hK.out _ _ (Chg.refl _ _) rfl
    ·intro u w_ hc hd K hK
     have h55:(Fact.val (.iface T rv)).holds (u 55) w_:=hd.get 0 (by kernel_rfl)
     simp only [Fact.holds]at h55
     clear hd
     simp only [h55]at hK
     go_simp
     exact hK.out _ _ (Chg.refl _ _) rfl
   ·intro u w_ hc hA K hK
    have e67:u 67=(.iface T rv):=hA.at 67 (by kernel_rfl)
    have e62:u 62=(.pointer (some ⟨(D 13 ps).1,0,none⟩)):=hA.at 62 (by kernel_rfl)
    have e64:u 64=(.int .i64 (x:Int)):=hA.at 64 (by kernel_rfl)
    clear hA
    simp only [e67,e62,e64]at hK⊢
    go_simp
    refine Calls.mono (P.tree _ w_ 13 ps 3 x (P.new h3 hc) (by unfold Lz14.lone;omega) HPS.out (by omega) (by show 8≤8;omega) (by show x<8;omega) (by simp;omega)) ?_
    rintro z w4 ⟨rfl,h4⟩
    clear hc
    refine hK.out _ _ ?_
    clear hK
    go_wp2
    first|go_end0|(refine bodyPost_ret (results_none rfl _ _ _) rfl ?_)
    refine⟨rfl,?_⟩
    rw [List.append_assoc,List.append_assoc]at h4
    exact h4
set_option maxHeartbeats 4000000 in
set_option maxRecDepth 100000 in
theorem len1high (P:PenS T rv fb ft fk fd B a D V wa vw ea X I)(l:List Bt)(w:World)(h:I l w)(ps:Nat)(hps:ps<2^X.p.pb.toNat)(hl:l.length+10≤87)(x y:Nat)(hx:x<256)(hy:y=x+16):Calls Tryz.prog 76 #[.iface T rv,.pointer (some ⟨a,14,none⟩),.int .i64 (ps:Int),.int .i64 ((y:Int)+2)] w fun e w'=>e= .returned (.tuple #[])∧I (l++(⟨some (nChoice 1),0,1⟩::⟨some (nChoice2 1),0,1⟩::treeB (nHigh 1) 8 x)) w':=by
 have nb:=P.nb
 have nt:=P.nt
 have nk:=P.nk
 have mb:=P.mb
 have mt:=P.mt
 have mkk:=P.mkk
 have md:=P.md
 have eb:=P.eb
 have et:=P.et
 have ek:=P.ek
 have ed:=P.ed
 obtain⟨ve9,c9,hle⟩:=P.le h
 have xc:w.cell? ⟨a,14,none⟩=some (.pointer (some ⟨(D 11 0).1,0,none⟩)):=hle.cell 14 _ rfl
 have HPS:Hid (ps<2^X.p.pb.toNat):=hps
 have hy1:16≤y:=by omega
 have hy2:y<16+256:=by omega
 have HYX:Hid ((y:Int)-16=(x:Int)):=by show _=_;omega
 have HYW:Hid (IntKind.i64.wrap ((y:Int)-16)=(x:Int)):=by show _=_;rw [IntKind.wrap_i64];omega
 clear hy
 have hd8:decide ((y:Int)<8)=false:=by simp;omega
 have hd16:decide ((y:Int)<16)=false:=by simp;omega
 clear hle hps
 go_enter Tryz.func76,Tryz.ntmps76
 go_upto_region 4 with fail
 refine wp_region_last (mk:=fun u=> #[_,_,_,_,_,_,_,_,_,_,_,_,_,_,_,_,_,_,_,_,_,_,_,_,_,_,_,_,_,_,_,_,_,_,_,u 35,u 36,u 37,u 38,u 39,u 40,u 41,u 42,_,_,_,_,_,_,_,_,_,_,_,_,_,_,_,_,_,_,_,_,_,_,_,_,_,_,_,_,_,_,_,_,_,_,_,_,_,_,_,_,_,_,_,_,_,_]) (F:=fun slot vv ww=>(look [(35,.val (.iface T rv)),(36,.val (.pointer (some ⟨a,14,none⟩))),(37,.val (.pointer (some ⟨a,14,none⟩))),(38,.val (.pointer (some ⟨a,14,none⟩))),(39,.val (.pointer (some ⟨(D 11 0).1,0,none⟩))),(40,.val (.func (.method "pith/lzenc.bit") #[.iface T rv] #[])),(41,.val (.func (.method "pith/lzenc.bit") #[.iface T rv] #[])),(42,.val (.iface T rv))] slot).holds vv ww) (fun _=>undef) rfl (by kernel_rfl) 8 _ rfl rfl (by kernel_rfl) ?_ (fun _ v w w' hc h=>Fact.stays _ v w w' hc h) ?_ ?_
 ·repeat (refine⟨⟨_,rfl,fun _ _=>rfl⟩,?_⟩)
  exact trivial
 ·refine⟨?_,?_,?_,?_,?_,?_,?_,?_,trivial⟩
  ·intro u w_ hc hd K hK
   clear hd
   go_simp
   exact hK.out _ _ (Chg.refl _ _) rfl
  ·intro u w_ hc hd K hK
   clear hd
   go_simp
   exact hK.out _ _ (Chg.refl _ _) rfl
  ·intro u w_ hc hd K hK
   have h36:(Fact.val (.pointer (some ⟨a,14,none⟩))).holds (u 36) w_:=hd.get 1 (by kernel_rfl)
   simp only [Fact.holds]at h36
   clear hd
   simp only [h36]at hK
   go_simp
   exact hK.out _ _ (Chg.refl _ _) rfl
  ·intro u w_ hc hd K hK
   have h37:(Fact.val (.pointer (some ⟨a,14,none⟩))).holds (u 37) w_:=hd.get 2 (by kernel_rfl)
   simp only [Fact.holds]at h37
   clear hd
   simp only [h37]at hK
   go_simp
   exact hK.out _ _ (Chg.refl _ _) rfl
  ·intro u w_ hc hd K hK
   have h38:(Fact.val (.pointer (some ⟨a,14,none⟩))).holds (u 38) w_:=hd.get 3 (by kernel_rfl)
   simp only [Fact.holds]at h38
   clear hd
   simp only [h38]at hK
   have hcell:=cell_chg xc hc
   go_simp
   exact hK.out _ _ (Chg.refl _ _) rfl
  ·intro u w_ hc hd K hK
   have h35:(Fact.val (.iface T rv)).holds (u 35) w_:=hd.get 0 (by kernel_rfl)
   simp only [Fact.holds]at h35
   clear hd
   simp only [h35]at hK
   go_simp
   exact hK.out _ _ (Chg.refl _ _) rfl
  ·intro u w_ hc hd K hK
   have h40:(Fact.val (.func (.method "pith/lzenc.bit") #[.iface T rv] #[])).holds (u 40) w_:=hd.get 5 (by kernel_rfl)
   simp only [Fact.holds]at h40
   clear hd
   simp only [h40]at hK
   go_simp
   exact hK.out _ _ (Chg.refl _ _) rfl
  ·intro u w_ hc hd K hK
   have h35:(Fact.val (.iface T rv)).holds (u 35) w_:=hd.get 0 (by kernel_rfl)
   simp only [Fact.holds]at h35
   clear hd
   simp only [h35]at hK
   go_simp
   exact hK.out _ _ (Chg.refl _ _) rfl
 ·intro u w_ hc hA K hK
  have e42:u 42=(.iface T rv):=hA.at 42 (by kernel_rfl)
  have e39:u 39=(.pointer (some ⟨(D 11 0).1,0,none⟩)):=hA.at 39 (by kernel_rfl)
  clear hA
  simp only [e42,e39]at hK⊢
  go_simp
  refine Calls.mono (P.bit l w_ 11 0 0 1 (P.new h hc) (by omega) (by show 0<1;omega) (by show 0<2;omega) (by omega) (by simp;omega)) ?_
  rintro z w2 ⟨rfl,h2⟩
  clear hc
  refine hK.out _ _ ?_
  clear hK
  go_wp2_with fail
  clear xc
  obtain⟨ve9,c9,hle⟩:=P.le h2
  have xc:w2.cell? ⟨a,14,none⟩=some (.pointer (some ⟨(D 11 0).1,0,none⟩)):=hle.cell 14 _ rfl
  clear hle
  refine wp_region_last (mk:=fun u=> #[_,_,_,_,_,_,_,_,_,_,_,_,_,_,_,_,_,_,_,_,_,_,_,_,_,_,_,_,_,_,_,_,_,_,_,_,_,_,_,_,_,_,_,_,_,_,_,_,_,_,_,_,_,_,_,_,_,_,_,_,_,_,_,_,_,_,_,_,_,u 69,u 70,u 71,u 72,u 73,u 74,u 75,u 76,_,_,_,_,_,_,_,_,_,_,_,_]) (F:=fun slot vv ww=>(look [(69,.val (.iface T rv)),(70,.val (.pointer (some ⟨a,14,none⟩))),(71,.val (.pointer (some ⟨a,14,none⟩))),(72,.val (.pointer (some ⟨a,14,none⟩))),(73,.val (.pointer (some ⟨(D 11 0).1,0,none⟩))),(74,.val (.func (.method "pith/lzenc.bit") #[.iface T rv] #[])),(75,.val (.func (.method "pith/lzenc.bit") #[.iface T rv] #[])),(76,.val (.iface T rv))] slot).holds vv ww) (fun _=>undef) rfl (by kernel_rfl) 8 _ rfl rfl (by kernel_rfl) ?_ (fun _ v w w' hc h=>Fact.stays _ v w w' hc h) ?_ ?_
  ·repeat (refine⟨⟨_,rfl,fun _ _=>rfl⟩,?_⟩)
   exact trivial
  ·refine⟨?_,?_,?_,?_,?_,?_,?_,?_,trivial⟩
   ·intro u w_ hc hd K hK
    clear hd
    go_simp
    exact hK.out _ _ (Chg.refl _ _) rfl
   ·intro u w_ hc hd K hK
    clear hd
    go_simp
    exact hK.out _ _ (Chg.refl _ _) rfl
   ·intro u w_ hc hd K hK
    have h70:(Fact.val (.pointer (some ⟨a,14,none⟩))).holds (u 70) w_:=hd.get 1 (by kernel_rfl)
    simp only [Fact.holds]at h70
    clear hd
    simp only [h70]at hK
    go_simp
    exact hK.out _ _ (Chg.refl _ _) rfl
   ·intro u w_ hc hd K hK
    have h71:(Fact.val (.pointer (some ⟨a,14,none⟩))).holds (u 71) w_:=hd.get 2 (by kernel_rfl)
    simp only [Fact.holds]at h71
    clear hd
    simp only [h71]at hK
    go_simp
    exact hK.out _ _ (Chg.refl _ _) rfl
   ·intro u w_ hc hd K hK
    have h72:(Fact.val (.pointer (some ⟨a,14,none⟩))).holds (u 72) w_:=hd.get 3 (by kernel_rfl)
    simp only [Fact.holds]at h72
    clear hd
    simp only [h72]at hK
    have hcell:=cell_chg xc hc
    go_simp
    exact hK.out _ _ (Chg.refl _ _) rfl
   ·intro u w_ hc hd K hK
    have h69:(Fact.val (.iface T rv)).holds (u 69) w_:=hd.get 0 (by kernel_rfl)
    simp only [Fact.holds]at h69
    clear hd
    simp only [h69]at hK
    go_simp
    exact hK.out _ _ (Chg.refl _ _) rfl
   ·intro u w_ hc hd K hK
    have h74:(Fact.val (.func (.method "pith/lzenc.bit") #[.iface T rv] #[])).holds (u 74) w_:=hd.get 5 (by kernel_rfl)
    simp only [Fact.holds]at h74
    clear hd
    simp only [h74]at hK
    go_simp
    exact hK.out _ _ (Chg.refl _ _) rfl
   ·intro u w_ hc hd K hK
    have h69:(Fact.val (.iface T rv)).holds (u 69) w_:=hd.get 0 (by kernel_rfl)
    simp only [Fact.holds]at h69
    clear hd
    simp only [h69]at hK
    go_simp
    exact hK.out _ _ (Chg.refl _ _) rfl
  ·intro u w_ hc hA K hK
   have e76:u 76=(.iface T rv):=hA.at 76 (by kernel_rfl)
   have e73:u 73=(.pointer (some ⟨(D 11 0).1,0,none⟩)):=hA.at 73 (by kernel_rfl)
   clear hA
   simp only [e76,e73]at hK⊢
   go_simp
   refine Calls.mono (P.bit _ w_ 11 0 1 1 (P.new h2 hc) (by omega) (by show 0<1;omega) (by show 1<2;omega) (by omega) (by simp;omega)) ?_
   rintro z w3 ⟨rfl,h3⟩
   clear hc
   refine hK.out _ _ ?_
   clear hK
   go_wp2_with fail
   clear xc
   obtain⟨ve9,c9,hle⟩:=P.le h3
   have xh:w3.cell? ⟨a,17,none⟩=some (.pointer (some ⟨(D 14 0).1,0,none⟩)):=hle.cell 17 _ rfl
   clear hle
   refine wp_region_last (mk:=fun u=> #[_,_,_,_,_,_,_,_,_,_,_,_,_,_,_,_,_,_,_,_,_,_,_,_,_,_,_,_,_,_,_,_,_,_,_,_,_,_,_,_,_,_,_,_,_,_,_,_,_,_,_,_,_,_,_,_,_,_,_,_,_,_,_,_,_,_,_,_,_,_,_,_,_,_,_,_,_,_,u 78,u 79,u 80,u 81,u 82,u 83,u 84,u 85,u 86,u 87,_]) (F:=fun slot vv ww=>(look [(78,.val (.iface T rv)),(79,.val (.pointer (some ⟨a,14,none⟩))),(80,.val (.pointer (some ⟨a,14,none⟩))),(81,.val (.pointer (some ⟨a,17,none⟩))),(82,.val (.pointer (some ⟨(D 14 0).1,0,none⟩))),(83,.val (.int .i64 (y:Int))),(84,.val (.int .i64 (x:Int))),(85,.val (.func (.method "pith/lzenc.tree") #[.iface T rv] #[])),(86,.val (.func (.method "pith/lzenc.tree") #[.iface T rv] #[])),(87,.val (.iface T rv))] slot).holds vv ww) (fun _=>undef) rfl (by kernel_rfl) 10 _ rfl rfl (by kernel_rfl) ?_ (fun _ v w w' hc h=>Fact.stays _ v w w' hc h) ?_ ?_
   ·repeat (refine⟨⟨_,rfl,fun _ _=>rfl⟩,?_⟩)
    exact trivial
   ·refine⟨?_,?_,?_,?_,?_,?_,?_,?_,?_,?_,trivial⟩
    ·intro u w_ hc hd K hK
     clear hd
     go_simp
     exact hK.out _ _ (Chg.refl _ _) rfl
    ·intro u w_ hc hd K hK
     clear hd
     go_simp
     exact hK.out _ _ (Chg.refl _ _) rfl
    ·intro u w_ hc hd K hK
     have h79:(Fact.val (.pointer (some ⟨a,14,none⟩))).holds (u 79) w_:=hd.get 1 (by kernel_rfl)
     simp only [Fact.holds]at h79
     clear hd
     simp only [h79]at hK
     go_simp
     exact hK.out _ _ (Chg.refl _ _) rfl
    ·intro u w_ hc hd K hK
     have h80:(Fact.val (.pointer (some ⟨a,14,none⟩))).holds (u 80) w_:=hd.get 2 (by kernel_rfl)
     simp only [Fact.holds]at h80
     clear hd
     simp only [h80]at hK
     go_simp
     exact hK.out _ _ (Chg.refl _ _) rfl
    ·intro u w_ hc hd K hK
     have h81:(Fact.val (.pointer (some ⟨a,17,none⟩))).holds (u 81) w_:=hd.get 3 (by kernel_rfl)
     simp only [Fact.holds]at h81
     clear hd
     simp only [h81]at hK
     have hcell:=cell_chg xh hc
     go_simp
     exact hK.out _ _ (Chg.refl _ _) rfl
    ·intro u w_ hc hd K hK
     clear hd
     go_simp
     exact hK.out _ _ (Chg.refl _ _) rfl
    ·intro u w_ hc hd K hK
     have h83:(Fact.val (.int .i64 (y:Int))).holds (u 83) w_:=hd.get 5 (by kernel_rfl)
     simp only [Fact.holds]at h83
     clear hd
     simp only [h83]at hK
     go_simp
     first|rw [HYW.out]|rw [HYX.out]
     exact hK.out _ _ (Chg.refl _ _) rfl
    ·intro u w_ hc hd K hK
     have h78:(Fact.val (.iface T rv)).holds (u 78) w_:=hd.get 0 (by kernel_rfl)
     simp only [Fact.holds]at h78
     clear hd
     simp only [h78]at hK
     go_simp
     exact hK.out _ _ (Chg.refl _ _) rfl
    ·intro u w_ hc hd K hK
     have h85:(Fact.val (.func (.method "pith/lzenc.tree") #[.iface T rv] #[])).holds (u 85) w_:=hd.get 7 (by kernel_rfl)
     simp only [Fact.holds]at h85
     clear hd
     simp only [h85]at hK
     go_simp
     exact hK.out _ _ (Chg.refl _ _) rfl
    ·intro u w_ hc hd K hK
     have h78:(Fact.val (.iface T rv)).holds (u 78) w_:=hd.get 0 (by kernel_rfl)
     simp only [Fact.holds]at h78
     clear hd
     simp only [h78]at hK
     go_simp
     exact hK.out _ _ (Chg.refl _ _) rfl
   ·intro u w_ hc hA K hK
    have e87:u 87=(.iface T rv):=hA.at 87 (by kernel_rfl)
    have e82:u 82=(.pointer (some ⟨(D 14 0).1,0,none⟩)):=hA.at 82 (by kernel_rfl)
    have e84:u 84=(.int .i64 (x:Int)):=hA.at 84 (by kernel_rfl)
    clear hA
    simp only [e87,e82,e84]at hK⊢
    go_simp
    refine Calls.mono (P.tree _ w_ 14 0 8 x (P.new h3 hc) (by unfold Lz14.lone;omega) (by show 0<1;omega) (by omega) (by show 256≤256;omega) (by show x<256;omega) (by simp;omega)) ?_
    rintro z w4 ⟨rfl,h4⟩
    clear hc
    refine hK.out _ _ ?_
    clear hK
    go_wp2
    first|go_end0|(refine bodyPost_ret (results_none rfl _ _ _) rfl ?_)
    refine⟨rfl,?_⟩
    rw [List.append_assoc,List.append_assoc]at h4
    exact h4
end Go.Proofs.YthideplpcnhncaaGreatDoor
