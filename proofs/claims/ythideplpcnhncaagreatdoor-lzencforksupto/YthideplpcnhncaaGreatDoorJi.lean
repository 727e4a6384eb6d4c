/- Of no statement by itself: Ji (without blanks and remarks). -/
import Derived.Test.YthideplpcnhncaaGreatDoorB20Pf
namespace Go.Proofs.YthideplpcnhncaaGreatDoor
open Go.RowKit
open St12 Sy13 Lz14
set_option linter.unusedVariables false
set_option linter.unusedSimpArgs false
variable {T:TypeId} {rv:Value} {fb ft fk fd B a:Nat} {D:Dir} {V:Lst} {wa:Nat} {vw:Value} {ea:Nat} {X:Lz} {I:List Bt→World→Prop}
set_option maxHeartbeats 4000000 in
set_option maxRecDepth 100000 in
theorem first_any (P:PenS T rv fb ft fk fd B a D V wa vw ea X I)(l:List Bt)(w:World)(h:I l w)(n ps long:Nat)(hn:n<12)(hps:ps<2^X.p.pb.toNat)(hlg:long≤1)(hl:l.length+2≤87):Calls Tryz.prog 78 #[.pointer (some ⟨a,0,none⟩),.iface T rv,.int .i64 (n:Int),.int .i64 (ps:Int),.int .i64 (long:Int)] w fun e w'=>e= .returned (.tuple #[])∧I (l++[⟨some (nIsRep0 n),0,0⟩,⟨some (nIsLong n ps),0,long⟩]) w':=by
 have nb:=P.nb
 have nt:=P.nt
 have nk:=P.nk
 have mb:=P.mb
 have mt:=P.mt
 have mkk:=P.mkk
 have md:=P.md
 have eb:=P.eb
 have et:=P.et
 have ek:=P.ek
 have ed:=P.ed
 obtain⟨ve9,c9,hle⟩:=P.le h
 have x6:w.cell? ⟨a,6,none⟩=some (.pointer (some ⟨(D 3 0).1,0,none⟩)):=hle.cell 6 _ rfl
 have HPS:Hid (ps<2^X.p.pb.toNat):=hps
 have hni:((n:Int)<12):=by omega
 clear hle hps
 go_enter Tryz.func78,Tryz.ntmps78
 go_wp2_with fail
 refine wp_region_last (mk:=fun u=> #[_,_,_,_,_,_,_,_,_,_,u 10,u 11,u 12,u 13,u 14,u 15,u 16,u 17,u 18,u 19,_,_,_,_,_,_,_,_,_,_,_,_,_,_,_,_]) (F:=fun slot vv ww=>(look [(10,.val (.iface T rv)),(11,.val (.pointer (some ⟨a,0,none⟩))),(12,.val (.pointer (some ⟨a,0,none⟩))),(13,.val (.pointer (some ⟨a,0,none⟩))),(14,.val (.pointer (some ⟨a,6,none⟩))),(15,.val (.pointer (some ⟨(D 3 0).1,0,none⟩))),(16,.val (.int .i64 (n:Int))),(17,.val (.func (.method "pith/lzenc.bit") #[.iface T rv] #[])),(18,.val (.func (.method "pith/lzenc.bit") #[.iface T rv] #[])),(19,.val (.iface T rv))] slot).holds vv ww) (fun _=>undef) rfl (by kernel_rfl) 10 _ rfl rfl (by kernel_rfl) ?_ (fun _ v w w' hc h=>Fact.stays _ v w w' hc h) ?_ ?_
 ·repeat (refine⟨⟨_,rfl,fun _ _=>rfl⟩,?_⟩)
  exact trivial
 ·refine⟨?_,?_,?_,?_,?_,?_,?_,?_,?_,?_,trivial⟩
  ·intro u w_ hc hd K hK
   clear hd
   go_simp
   exact hK.out _ _ (Chg.refl _ _) rfl
  ·intro u w_ hc hd K hK
   clear hd
   go_simp
   exact hK.out _ _ (Chg.refl _ _) rfl
  ·intro u w_ hc hd K hK
   have h11:(Fact.val (.pointer (some ⟨a,0,none⟩))).holds (u 11) w_:=hd.get 1 (by kernel_rfl)
   simp only [Fact.holds]at h11
   clear hd
   simp only [h11]at hK
   go_simp
   exact hK.out _ _ (Chg.refl _ _) rfl
  ·intro u w_ hc hd K hK
   have h12:(Fact.val (.pointer (some ⟨a,0,none⟩))).holds (u 12) w_:=hd.get 2 (by kernel_rfl)
   simp only [Fact.holds]at h12
   clear hd
   simp only [h12]at hK
   go_simp
   exact hK.out _ _ (Chg.refl _ _) rfl
  ·intro u w_ hc hd K hK
   have h13:(Fact.val (.pointer (some ⟨a,0,none⟩))).holds (u 13) w_:=hd.get 3 (by kernel_rfl)
   simp only [Fact.holds]at h13
   clear hd
   simp only [h13]at hK
   go_simp
   exact hK.out _ _ (Chg.refl _ _) rfl
  ·intro u w_ hc hd K hK
   have h14:(Fact.val (.pointer (some ⟨a,6,none⟩))).holds (u 14) w_:=hd.get 4 (by kernel_rfl)
   simp only [Fact.holds]at h14
   clear hd
   simp only [h14]at hK
   have hcell:=cell_chg x6 hc
   go_simp
   exact hK.out _ _ (Chg.refl _ _) rfl
  ·intro u w_ hc hd K hK
   clear hd
   go_simp
   exact hK.out _ _ (Chg.refl _ _) rfl
  ·intro u w_ hc hd K hK
   have h10:(Fact.val (.iface T rv)).holds (u 10) w_:=hd.get 0 (by kernel_rfl)
   simp only [Fact.holds]at h10
   clear hd
   simp only [h10]at hK
   go_simp
   exact hK.out _ _ (Chg.refl _ _) rfl
  ·intro u w_ hc hd K hK
   have h17:(Fact.val (.func (.method "pith/lzenc.bit") #[.iface T rv] #[])).holds (u 17) w_:=hd.get 7 (by kernel_rfl)
   simp only [Fact.holds]at h17
   clear hd
   simp only [h17]at hK
   go_simp
   exact hK.out _ _ (Chg.refl _ _) rfl
  ·intro u w_ hc hd K hK
   have h10:(Fact.val (.iface T rv)).holds (u 10) w_:=hd.get 0 (by kernel_rfl)
   simp only [Fact.holds]at h10
   clear hd
   simp only [h10]at hK
   go_simp
   exact hK.out _ _ (Chg.refl _ _) rfl
 ·intro u w_ hc hA K hK
  have e19:u 19=(.iface T rv):=hA.at 19 (by kernel_rfl)
  have e15:u 15=(.pointer (some ⟨(D 3 0).1,0,none⟩)):=hA.at 15 (by kernel_rfl)
  have e16:u 16=(.int .i64 (n:Int)):=hA.at 16 (by kernel_rfl)
  clear hA
  simp only [e19,e15,e16]at hK⊢
  go_simp
  refine Calls.mono (P.bit l w_ 3 0 n 0 (P.new h hc) (by omega) (by show 0<1;omega) hn (by omega) (by omega)) ?_
  rintro z w2 ⟨rfl,h2⟩
  clear hc
  refine hK.out _ _ ?_
  clear hK
  go_wp2_with fail
  clear x6
  obtain⟨ve9,c9,hle⟩:=P.le h2
  obtain⟨gl,kl,el,cl⟩:=hle.ptr 1 (by omega) rfl n hn
  have xl:w2.cell? ⟨a,4,none⟩=some (.slice (some ⟨gl,0,none⟩) 12 kl):=(hle.cell 4 _ rfl).trans (congrArg some el)
  clear el
  clear hle
  refine wp_region_last (mk:=fun u=> #[_,_,_,_,_,_,_,_,_,_,_,_,_,_,_,_,_,_,_,_,_,u 21,u 22,u 23,u 24,u 25,u 26,u 27,u 28,u 29,u 30,u 31,u 32,u 33,u 34,_]) (F:=fun slot vv ww=>(look [(21,.val (.iface T rv)),(22,.val (.pointer (some ⟨a,0,none⟩))),(23,.val (.pointer (some ⟨a,0,none⟩))),(24,.val (.pointer (some ⟨a,0,none⟩))),(25,.val (.pointer (some ⟨a,4,none⟩))),(26,.val (.slice (some ⟨gl,0,none⟩) 12 kl)),(27,.val (.int .i64 (n:Int))),(28,.val (.pointer (some ⟨gl,n,none⟩))),(29,.val (.pointer (some ⟨(D 1 n).1,0,none⟩))),(30,.val (.int .i64 (ps:Int))),(31,.val (.int .i64 (long:Int))),(32,.val (.func (.method "pith/lzenc.bit") #[.iface T rv] #[])),(33,.val (.func (.method "pith/lzenc.bit") #[.iface T rv] #[])),(34,.val (.iface T rv))] slot).holds vv ww) (fun _=>undef) rfl (by kernel_rfl) 14 _ rfl rfl (by kernel_rfl) ?_ (fun _ v w w' hc h=>Fact.stays _ v w w' hc h) ?_ ?_
  ·repeat (refine⟨⟨_,rfl,fun _ _=>rfl⟩,?_⟩)
   exact trivial
  ·refine⟨?_,?_,?_,?_,?_,?_,?_,?_,?_,?_,?_,?_,?_,?_,trivial⟩
   ·intro u w_ hc hd K hK
    clear hd
    go_simp
    exact hK.out _ _ (Chg.refl _ _) rfl
   ·intro u w_ hc hd K hK
    clear hd
    go_simp
    exact hK.out _ _ (Chg.refl _ _) rfl
   ·intro u w_ hc hd K hK
    have h22:(Fact.val (.pointer (some ⟨a,0,none⟩))).holds (u 22) w_:=hd.get 1 (by kernel_rfl)
    simp only [Fact.holds]at h22
    clear hd
    simp only [h22]at hK
    go_simp
    exact hK.out _ _ (Chg.refl _ _) rfl
   ·intro u w_ hc hd K hK
    have h23:(Fact.val (.pointer (some ⟨a,0,none⟩))).holds (u 23) w_:=hd.get 2 (by kernel_rfl)
    simp only [Fact.holds]at h23
    clear hd
    simp only [h23]at hK
    go_simp
    exact hK.out _ _ (Chg.refl _ _) rfl
   ·intro u w_ hc hd K hK
    have h24:(Fact.val (.pointer (some ⟨a,0,none⟩))).holds (u 24) w_:=hd.get 3 (by kernel_rfl)
    simp only [Fact.holds]at h24
    clear hd
    simp only [h24]at hK
    go_simp
    exact hK.out _ _ (Chg.refl _ _) rfl
   ·intro u w_ hc hd K hK
    have h25:(Fact.val (.pointer (some ⟨a,4,none⟩))).holds (u 25) w_:=hd.get 4 (by kernel_rfl)
    simp only [Fact.holds]at h25
    clear hd
    simp only [h25]at hK
    have hcell:=cell_chg xl hc
    go_simp
    exact hK.out _ _ (Chg.refl _ _) rfl
   ·intro u w_ hc hd K hK
    clear hd
    go_simp
    exact hK.out _ _ (Chg.refl _ _) rfl
   ·intro u w_ hc hd K hK
    have h26:(Fact.val (.slice (some ⟨gl,0,none⟩) 12 kl)).holds (u 26) w_:=hd.get 5 (by kernel_rfl)
    simp only [Fact.holds]at h26
    have h27:(Fact.val (.int .i64 (n:Int))).holds (u 27) w_:=hd.get 6 (by kernel_rfl)
    simp only [Fact.holds]at h27
    clear hd
    simp only [h26,h27]at hK
    go_simp
    exact hK.out _ _ (Chg.refl _ _) rfl
   ·intro u w_ hc hd K hK
    have h28:(Fact.val (.pointer (some ⟨gl,n,none⟩))).holds (u 28) w_:=hd.get 7 (by kernel_rfl)
    simp only [Fact.holds]at h28
    clear hd
    simp only [h28]at hK
    have hcell:=cell_chg cl hc
    go_simp
    exact hK.out _ _ (Chg.refl _ _) rfl
   ·intro u w_ hc hd K hK
    clear hd
    go_simp
    exact hK.out _ _ (Chg.refl _ _) rfl
   ·intro u w_ hc hd K hK
    clear hd
    go_simp
    exact hK.out _ _ (Chg.refl _ _) rfl
   ·intro u w_ hc hd K hK
    have h21:(Fact.val (.iface T rv)).holds (u 21) w_:=hd.get 0 (by kernel_rfl)
    simp only [Fact.holds]at h21
    clear hd
    simp only [h21]at hK
    go_simp
    exact hK.out _ _ (Chg.refl _ _) rfl
   ·intro u w_ hc hd K hK
    have h32:(Fact.val (.func (.method "pith/lzenc.bit") #[.iface T rv] #[])).holds (u 32) w_:=hd.get 11 (by kernel_rfl)
    simp only [Fact.holds]at h32
    clear hd
    simp only [h32]at hK
    go_simp
    exact hK.out _ _ (Chg.refl _ _) rfl
   ·intro u w_ hc hd K hK
    have h21:(Fact.val (.iface T rv)).holds (u 21) w_:=hd.get 0 (by kernel_rfl)
    simp only [Fact.holds]at h21
    clear hd
    simp only [h21]at hK
    go_simp
    exact hK.out _ _ (Chg.refl _ _) rfl
  ·intro u w_ hc hA K hK
   have e34:u 34=(.iface T rv):=hA.at 34 (by kernel_rfl)
   have e29:u 29=(.pointer (some ⟨(D 1 n).1,0,none⟩)):=hA.at 29 (by kernel_rfl)
   have e30:u 30=(.int .i64 (ps:Int)):=hA.at 30 (by kernel_rfl)
   have e31:u 31=(.int .i64 (long:Int)):=hA.at 31 (by kernel_rfl)
   clear hA
   simp only [e34,e29,e30,e31]at hK⊢
   go_simp
   refine Calls.mono (P.bit _ w_ 1 n ps long (P.new h2 hc) (by omega) hn HPS.out hlg (by simp;omega)) ?_
   rintro z w3 ⟨rfl,h3⟩
   clear hc
   refine hK.out _ _ ?_
   clear hK
   go_wp2
   first|go_end0|(refine bodyPost_ret (results_none rfl _ _ _) rfl ?_)
   refine⟨rfl,?_⟩
   rw [List.append_assoc]at h3
   exact h3
set_option maxHeartbeats 4000000 in
set_option maxRecDepth 100000 in
theorem which0 (P:PenS T rv fb ft fk fd B a D V wa vw ea X I)(l:List Bt)(w:World)(h:I l w)(n ps:Nat)(hn:n<12)(hps:ps<2^X.p.pb.toNat)(hl:l.length+3≤87):Calls Tryz.prog 79 #[.pointer (some ⟨a,0,none⟩),.iface T rv,.int .i64 (n:Int),.int .i64 (ps:Int),.int .i64 0] w fun e w'=>e= .returned (.tuple #[])∧I (l++[⟨some (nIsRep0 n),0,0⟩,⟨some (nIsLong n ps),0,1⟩]) w':=by
 have HF:Hid _:=first_any P l w h n ps 1 hn hps (by omega) (by omega)
 clear hps
 go_enter Tryz.func79,Tryz.ntmps79
 go_wp2_with fail
 refine Calls.mono HF.out ?_
 rintro z w2 ⟨rfl,h2⟩
 go_wp2
 first|go_end0|(refine bodyPost_ret (results_none rfl _ _ _) rfl ?_)
 exact⟨rfl,h2⟩
set_option maxHeartbeats 4000000 in
set_option maxRecDepth 100000 in
theorem which1 (P:PenS T rv fb ft fk fd B a D V wa vw ea X I)(l:List Bt)(w:World)(h:I l w)(n ps:Nat)(hn:n<12)(hps:ps<2^X.p.pb.toNat)(hl:l.length+3≤87):Calls Tryz.prog 79 #[.pointer (some ⟨a,0,none⟩),.iface T rv,.int .i64 (n:Int),.int .i64 (ps:Int),.int .i64 1] w fun e w'=>e= .returned (.tuple #[])∧I (l++[⟨some (nIsRep0 n),0,1⟩,⟨some (nIsRep1 n),0,0⟩]) w':=by
 have nb:=P.nb
 have nt:=P.nt
 have nk:=P.nk
 have mb:=P.mb
 have mt:=P.mt
 have mkk:=P.mkk
 have md:=P.md
 have eb:=P.eb
 have et:=P.et
 have ek:=P.ek
 have ed:=P.ed
 obtain⟨ve9,c9,hle⟩:=P.le h
 have x6:w.cell? ⟨a,6,none⟩=some (.pointer (some ⟨(D 3 0).1,0,none⟩)):=hle.cell 6 _ rfl
 clear hle hps
 go_enter Tryz.func79,Tryz.ntmps79
 go_wp2_with fail
 refine wp_region_last (mk:=fun u=> #[_,_,_,_,_,_,_,_,_,_,_,_,_,_,_,_,_,u 17,u 18,u 19,u 20,u 21,u 22,u 23,u 24,u 25,u 26,_,_,_,_,_,_,_,_,_,_,_,_,_,_,_,_,_,_,_,_,_,_,_,_,_,_,_,_,_,_,_,_,_,_,_,_,_,_]) (F:=fun slot vv ww=>(look [(17,.val (.iface T rv)),(18,.val (.pointer (some ⟨a,0,none⟩))),(19,.val (.pointer (some ⟨a,0,none⟩))),(20,.val (.pointer (some ⟨a,0,none⟩))),(21,.val (.pointer (some ⟨a,6,none⟩))),(22,.val (.pointer (some ⟨(D 3 0).1,0,none⟩))),(23,.val (.int .i64 (n:Int))),(24,.val (.func (.method "pith/lzenc.bit") #[.iface T rv] #[])),(25,.val (.func (.method "pith/lzenc.bit") #[.iface T rv] #[])),(26,.val (.iface T rv))] slot).holds vv ww) (fun _=>undef) rfl (by kernel_rfl) 10 _ rfl rfl (by kernel_rfl) ?_ (fun _ v w w' hc h=>Fact.stays _ v w w' hc h) ?_ ?_
 ·repeat (refine⟨⟨_,rfl,fun _ _=>rfl⟩,?_⟩)
  exact trivial
 ·refine⟨?_,?_,?_,?_,?_,?_,?_,?_,?_,?_,trivial⟩
  ·intro u w_ hc hd K hK
   clear hd
   go_simp
   exact hK.out _ _ (Chg.refl _ _) rfl
  ·intro u w_ hc hd K hK
   clear hd
   go_simp
   exact hK.out _ _ (Chg.refl _ _) rfl
  ·intro u w_ hc hd K hK
   have h18:(Fact.val (.pointer (some ⟨a,0,none⟩))).holds (u 18) w_:=hd.get 1 (by kernel_rfl)
   simp only [Fact.holds]at h18
   clear hd
   simp only [h18]at hK
   go_simp
   exact hK.out _ _ (Chg.refl _ _) rfl
  ·intro u w_ hc hd K hK
   have h19:(Fact.val (.pointer (some ⟨a,0,none⟩))).holds (u 19) w_:=hd.get 2 (by kernel_rfl)
   simp only [Fact.holds]at h19
   clear hd
   simp only [h19]at hK
   go_simp
   exact hK.out _ _ (Chg.refl _ _) rfl
  ·intro u w_ hc hd K hK
   have h20:(Fact.val (.pointer (some ⟨a,0,none⟩))).holds (u 20) w_:=hd.get 3 (by kernel_rfl)
   simp only [Fact.holds]at h20
   clear hd
   simp only [h20]at hK
   go_simp
   exact hK.out _ _ (Chg.refl _ _) rfl
  ·intro u w_ hc hd K hK
   have h21:(Fact.val (.pointer (some ⟨a,6,none⟩))).holds (u 21) w_:=hd.get 4 (by kernel_rfl)
   simp only [Fact.holds]at h21
   clear hd
   simp only [h21]at hK
   have hcell:=cell_chg x6 hc
   go_simp
   exact hK.out _ _ (Chg.refl _ _) rfl
  ·intro u w_ hc hd K hK
   clear hd
   go_simp
   exact hK.out _ _ (Chg.refl _ _) rfl
  ·intro u w_ hc hd K hK
   have h17:(Fact.val (.iface T rv)).holds (u 17) w_:=hd.get 0 (by kernel_rfl)
   simp only [Fact.holds]at h17
   clear hd
   simp only [h17]at hK
   go_simp
   exact hK.out _ _ (Chg.refl _ _) rfl
  ·intro u w_ hc hd K hK
   have h24:(Fact.val (.func (.method "pith/lzenc.bit") #[.iface T rv] #[])).holds (u 24) w_:=hd.get 7 (by kernel_rfl)
   simp only [Fact.holds]at h24
   clear hd
   simp only [h24]at hK
   go_simp
   exact hK.out _ _ (Chg.refl _ _) rfl
  ·intro u w_ hc hd K hK
   have h17:(Fact.val (.iface T rv)).holds (u 17) w_:=hd.get 0 (by kernel_rfl)
   simp only [Fact.holds]at h17
   clear hd
   simp only [h17]at hK
   go_simp
   exact hK.out _ _ (Chg.refl _ _) rfl
 ·intro u w_ hc hA K hK
  have e26:u 26=(.iface T rv):=hA.at 26 (by kernel_rfl)
  have e22:u 22=(.pointer (some ⟨(D 3 0).1,0,none⟩)):=hA.at 22 (by kernel_rfl)
  have e23:u 23=(.int .i64 (n:Int)):=hA.at 23 (by kernel_rfl)
  clear hA
  simp only [e26,e22,e23]at hK⊢
  go_simp
  refine Calls.mono (P.bit l w_ 3 0 n 1 (P.new h hc) (by omega) (by show 0<1;omega) hn (by omega) (by omega)) ?_
  rintro z w2 ⟨rfl,h2⟩
  clear hc
  refine hK.out _ _ ?_
  clear hK
  go_wp2_with fail
  clear x6
  obtain⟨ve9,c9,hle⟩:=P.le h2
  have x7:w2.cell? ⟨a,7,none⟩=some (.pointer (some ⟨(D 4 0).1,0,none⟩)):=hle.cell 7 _ rfl
  clear hle
  refine wp_region_last (mk:=fun u=> #[_,_,_,_,_,_,_,_,_,_,_,_,_,_,_,_,_,_,_,_,_,_,_,_,_,_,_,_,_,_,u 30,u 31,u 32,u 33,u 34,u 35,u 36,u 37,u 38,u 39,_,_,_,_,_,_,_,_,_,_,_,_,_,_,_,_,_,_,_,_,_,_,_,_,_]) (F:=fun slot vv ww=>(look [(30,.val (.iface T rv)),(31,.val (.pointer (some ⟨a,0,none⟩))),(32,.val (.pointer (some ⟨a,0,none⟩))),(33,.val (.pointer (some ⟨a,0,none⟩))),(34,.val (.pointer (some ⟨a,7,none⟩))),(35,.val (.pointer (some ⟨(D 4 0).1,0,none⟩))),(36,.val (.int .i64 (n:Int))),(37,.val (.func (.method "pith/lzenc.bit") #[.iface T rv] #[])),(38,.val (.func (.method "pith/lzenc.bit") #[.iface T rv] #[])),(39,.val (.iface T rv))] slot).holds vv ww) (fun _=>undef) rfl (by kernel_rfl) 10 _ rfl rfl (by kernel_rfl) ?_ (fun _ v w w' hc h=>Fact.stays _ v w w' hc h) ?_ ?_
  ·repeat (refine⟨⟨_,rfl,fun _ _=>rfl⟩,?_⟩)
   exact trivial
  ·refine⟨?_,?_,?_,?_,?_,?_,?_,?_,?_,?_,trivial⟩
   ·intro u w_ hc hd K hK
    clear hd
    go_simp
    exact hK.out _ _ (Chg.refl _ _) rfl
   ·intro u w_ hc hd K hK
    clear hd
    go_simp
    exact hK.out _ _ (Chg.refl _ _) rfl
   ·intro u w_ hc hd K hK
    have h31:(Fact.val (.pointer (some ⟨a,0,none⟩))).holds (u 31) w_:=hd.get 1 (by kernel_rfl)
    simp only [Fact.holds]at h31
    clear hd
    simp only [h31]at hK
    go_simp
    exact hK.out _ _ (Chg.refl _ _) rfl
   ·intro u w_ hc hd K hK
    have h32:(Fact.val (.pointer (some ⟨a,0,none⟩))).holds (u 32) w_:=hd.get 2 (by kernel_rfl)
    simp only [Fact.holds]at h32
    clear hd
    simp only [h32]at hK
    go_simp
    exact hK.out _ _ (Chg.refl _ _) rfl
   ·intro u w_ hc hd K hK
    have h33:(Fact.val (.pointer (some ⟨a,0,none⟩))).holds (u 33) w_:=hd.get 3 (by kernel_rfl)
    simp only [Fact.holds]at h33
    clear hd
    simp only [h33]at hK
    go_simp
    exact hK.out _ _ (Chg.refl _ _) rfl
   ·intro u w_ hc hd K hK
    have h34:(Fact.val (.pointer (some ⟨a,7,none⟩))).holds (u 34) w_:=hd.get 4 (by kernel_rfl)
    simp only [Fact.holds]at h34
    clear hd
    simp only [h34]at hK
    have hcell:=cell_chg x7 hc
    go_simp
    exact hK.out _ _ (Chg.refl _ _) rfl
   ·intro u w_ hc hd K hK
    clear hd
    go_simp
    exact hK.out _ _ (Chg.refl _ _) rfl
   ·intro u w_ hc hd K hK
    have h30:(Fact.val (.iface T rv)).holds (u 30) w_:=hd.get 0 (by kernel_rfl)
    simp only [Fact.holds]at h30
    clear hd
    simp only [h30]at hK
    go_simp
    exact hK.out _ _ (Chg.refl _ _) rfl
   ·intro u w_ hc hd K hK
    have h37:(Fact.val (.func (.method "pith/lzenc.bit") #[.iface T rv] #[])).holds (u 37) w_:=hd.get 7 (by kernel_rfl)
    simp only [Fact.holds]at h37
    clear hd
    simp only [h37]at hK
    go_simp
    exact hK.out _ _ (Chg.refl _ _) rfl
   ·intro u w_ hc hd K hK
    have h30:(Fact.val (.iface T rv)).holds (u 30) w_:=hd.get 0 (by kernel_rfl)
    simp only [Fact.holds]at h30
    clear hd
    simp only [h30]at hK
    go_simp
    exact hK.out _ _ (Chg.refl _ _) rfl
  ·intro u w_ hc hA K hK
   have e39:u 39=(.iface T rv):=hA.at 39 (by kernel_rfl)
   have e35:u 35=(.pointer (some ⟨(D 4 0).1,0,none⟩)):=hA.at 35 (by kernel_rfl)
   have e36:u 36=(.int .i64 (n:Int)):=hA.at 36 (by kernel_rfl)
   clear hA
   simp only [e39,e35,e36]at hK⊢
   go_simp
   refine Calls.mono (P.bit _ w_ 4 0 n 0 (P.new h2 hc) (by omega) (by show 0<1;omega) hn (by omega) (by simp;omega)) ?_
   rintro z w3 ⟨rfl,h3⟩
   clear hc
   refine hK.out _ _ ?_
   clear hK
   go_wp2
   first|go_end0|(refine bodyPost_ret (results_none rfl _ _ _) rfl ?_)
   refine⟨rfl,?_⟩
   rw [List.append_assoc]at h3
   exact h3
set_option maxHeartbeats 4000000 in
set_option maxRecDepth 100000 in
theorem which2 (P:PenS T rv fb ft fk fd B a D V wa vw ea X I)(l:List Bt)(w:World)(h:I l w)(n ps:Nat)(hn:n<12)(hps:ps<2^X.p.pb.toNat)(hl:l.length+3≤87):Calls Tryz.prog 79 #[.pointer (some ⟨a,0,none⟩),.iface T rv,.int .i64 (n:Int),.int .i64 (ps:Int),.int .i64 2] w fun e w'=>e= .returned (.tuple #[])∧I (l++[⟨some (nIsRep0 n),0,1⟩,⟨some (nIsRep1 n),0,1⟩,⟨some (nIsRep2 n),0,0⟩]) w':=by
 have nb:=P.nb
 have nt:=P.nt
 have nk:=P.nk
 have mb:=P.mb
 have mt:=P.mt
 have mkk:=P.mkk
 have md:=P.md
 have eb:=P.eb
 have et:=P.et
 have ek:=P.ek
 have ed:=P.ed
 obtain⟨ve9,c9,hle⟩:=P.le h
 have x6:w.cell? ⟨a,6,none⟩=some (.pointer (some ⟨(D 3 0).1,0,none⟩)):=hle.cell 6 _ rfl
 clear hle hps
 go_enter Tryz.func79,Tryz.ntmps79
 go_wp2_with fail
 refine wp_region_last (mk:=fun u=> #[_,_,_,_,_,_,_,_,_,_,_,_,_,_,_,_,_,u 17,u 18,u 19,u 20,u 21,u 22,u 23,u 24,u 25,u 26,_,_,_,_,_,_,_,_,_,_,_,_,_,_,_,_,_,_,_,_,_,_,_,_,_,_,_,_,_,_,_,_,_,_,_,_,_,_]) (F:=fun slot vv ww=>(look [(17,.val (.iface T rv)),(18,.val (.pointer (some ⟨a,0,none⟩))),(19,.val (.pointer (some ⟨a,0,none⟩))),(20,.val (.pointer (some ⟨a,0,none⟩))),(21,.val (.pointer (some ⟨a,6,none⟩))),(22,.val (.pointer (some ⟨(D 3 0).1,0,none⟩))),(23,.val (.int .i64 (n:Int))),(24,.val (.func (.method "pith/lzenc.bit") #[.iface T rv] #[])),(25,.val (.func (.method "pith/lzenc.bit") #[.iface T rv] #[])),(26,.val (.iface T rv))] slot).holds vv ww) (fun _=>undef) rfl (by kernel_rfl) 10 _ rfl rfl (by kernel_rfl) ?_ (fun _ v w w' hc h=>Fact.stays _ v w w' hc h) ?_ ?_
 ·repeat (refine⟨⟨_,rfl,fun _ _=>rfl⟩,?_⟩)
  exact trivial
 ·refine⟨?_,?_,?_,?_,?_,?_,?_,?_,?_,?_,trivial⟩
  ·intro u w_ hc hd K hK
   clear hd
   go_simp
   exact hK.out _ _ (Chg.refl _ _) rfl
  ·intro u w_ hc hd K hK
   clear hd
   go_simp
   exact hK.out _ _ (Chg.refl _ _) rfl
  ·intro u w_ hc hd K hK
   have h18:(Fact.val (.pointer (some ⟨a,0,none⟩))).holds (u 18) w_:=hd.get 1 (by kernel_rfl)
   simp only [Fact.holds]at h18
   clear hd
   simp only [h18]at hK
   go_simp
   exact hK.out _ _ (Chg.refl _ _) rfl
  ·intro u w_ hc hd K hK
   have h19:(Fact.val (.pointer (some ⟨a,0,none⟩))).holds (u 19) w_:=hd.get 2 (by kernel_rfl)
   simp only [Fact.holds]at h19
   clear hd
   simp only [h19]at hK
   go_simp
   exact hK.out _ _ (Chg.refl _ _) rfl
  ·intro u w_ hc hd K hK
   have h20:(Fact.val (.pointer (some ⟨a,0,none⟩))).holds (u 20) w_:=hd.get 3 (by kernel_rfl)
   simp only [Fact.holds]at h20
   clear hd
   simp only [h20]at hK
   go_simp
   exact hK.out _ _ (Chg.refl _ _) rfl
  ·intro u w_ hc hd K hK
   have h21:(Fact.val (.pointer (some ⟨a,6,none⟩))).holds (u 21) w_:=hd.get 4 (by kernel_rfl)
   simp only [Fact.holds]at h21
   clear hd
   simp only [h21]at hK
   have hcell:=cell_chg x6 hc
   go_simp
   exact hK.out _ _ (Chg.refl _ _) rfl
  ·intro u w_ hc hd K hK
   clear hd
   go_simp
   exact hK.out _ _ (Chg.refl _ _) rfl
  ·intro u w_ hc hd K hK
   have h17:(Fact.val (.iface T rv)).holds (u 17) w_:=hd.get 0 (by kernel_rfl)
   simp only [Fact.holds]at h17
   clear hd
   simp only [h17]at hK
   go_simp
   exact hK.out _ _ (Chg.refl _ _) rfl
  ·intro u w_ hc hd K hK
   have h24:(Fact.val (.func (.method "pith/lzenc.bit") #[.iface T rv] #[])).holds (u 24) w_:=hd.get 7 (by kernel_rfl)
   simp only [Fact.holds]at h24
   clear hd
   simp only [h24]at hK
   go_simp
   exact hK.out _ _ (Chg.refl _ _) rfl
  ·intro u w_ hc hd K hK
   have h17:(Fact.val (.iface T rv)).holds (u 17) w_:=hd.get 0 (by kernel_rfl)
   simp only [Fact.holds]at h17
   clear hd
   simp only [h17]at hK
   go_simp
   exact hK.out _ _ (Chg.refl _ _) rfl
 ·intro u w_ hc hA K hK
  have e26:u 26=(.iface T rv):=hA.at 26 (by kernel_rfl)
  have e22:u 22=(.pointer (some ⟨(D 3 0).1,0,none⟩)):=hA.at 22 (by kernel_rfl)
  have e23:u 23=(.int .i64 (n:Int)):=hA.at 23 (by kernel_rfl)
  clear hA
  simp only [e26,e22,e23]at hK⊢
  go_simp
  refine Calls.mono (P.bit l w_ 3 0 n 1 (P.new h hc) (by omega) (by show 0<1;omega) hn (by omega) (by omega)) ?_
  rintro z w2 ⟨rfl,h2⟩
  clear hc
  refine hK.out _ _ ?_
  clear hK
  go_wp2_with fail
  clear x6
  obtain⟨ve9,c9,hle⟩:=P.le h2
  have x7:w2.cell? ⟨a,7,none⟩=some (.pointer (some ⟨(D 4 0).1,0,none⟩)):=hle.cell 7 _ rfl
  clear hle
  refine wp_region_last (mk:=fun u=> #[_,_,_,_,_,_,_,_,_,_,_,_,_,_,_,_,_,_,_,_,_,_,_,_,_,_,_,_,_,_,_,_,_,_,_,_,_,_,_,_,_,u 41,u 42,u 43,u 44,u 45,u 46,u 47,u 48,u 49,u 50,_,_,_,_,_,_,_,_,_,_,_,_,_,_]) (F:=fun slot vv ww=>(look [(41,.val (.iface T rv)),(42,.val (.pointer (some ⟨a,0,none⟩))),(43,.val (.pointer (some ⟨a,0,none⟩))),(44,.val (.pointer (some ⟨a,0,none⟩))),(45,.val (.pointer (some ⟨a,7,none⟩))),(46,.val (.pointer (some ⟨(D 4 0).1,0,none⟩))),(47,.val (.int .i64 (n:Int))),(48,.val (.func (.method "pith/lzenc.bit") #[.iface T rv] #[])),(49,.val (.func (.method "pith/lzenc.bit") #[.iface T rv] #[])),(50,.val (.iface T rv))] slot).holds vv ww) (fun _=>undef) rfl (by kernel_rfl) 10 _ rfl rfl (by kernel_rfl) ?_ (fun _ v w w' hc h=>Fact.stays _ v w w' hc h) ?_ ?_
  ·repeat (refine⟨⟨_,rfl,fun _ _=>rfl⟩,?_⟩)
   exact trivial
  ·refine⟨?_,?_,?_,?_,?_,?_,?_,?_,?_,?_,trivial⟩
   ·intro u w_ hc hd K hK
    clear hd
    go_simp
    exact hK.out _ _ (Chg.refl _ _) rfl
   ·intro u w_ hc hd K hK
    clear hd
    go_simp
    exact hK.out _ _ (Chg.refl _ _) rfl
   ·intro u w_ hc hd K hK
    have h42:(Fact.val (.pointer (some ⟨a,0,none⟩))).holds (u 42) w_:=hd.get 1 (by kernel_rfl)
    simp only [Fact.holds]at h42
    clear hd
    simp only [h42]at hK
    go_simp
    exact hK.out _ _ (Chg.refl _ _) rfl
   ·intro u w_ hc hd K hK
    have h43:(Fact.val (.pointer (some ⟨a,0,none⟩))).holds (u 43) w_:=hd.get 2 (by kernel_rfl)
    simp only [Fact.holds]at h43
    clear hd
    simp only [h43]at hK
    go_simp
    exact hK.out _ _ (Chg.refl _ _) rfl
   ·intro u w_ hc hd K hK
    have h44:(Fact.val (.pointer (some ⟨a,0,none⟩))).holds (u 44) w_:=hd.get 3 (by kernel_rfl)
    simp only [Fact.holds]at h44
    clear hd
    simp only [h44]at hK
    go_simp
    exact hK.out _ _ (Chg.refl _ _) rfl
   ·intro u w_ hc hd K hK
    have h45:(Fact.val (.pointer (some ⟨a,7,none⟩))).holds (u 45) w_:=hd.get 4 (by kernel_rfl)
    simp only [Fact.holds]at h45
    clear hd
    simp only [h45]at hK
    have hcell:=cell_chg x7 hc
    go_simp
    exact hK.out _ _ (Chg.refl _ _) rfl
   ·intro u w_ hc hd K hK
    clear hd
    go_simp
    exact hK.out _ _ (Chg.refl _ _) rfl
   ·intro u w_ hc hd K hK
    have h41:(Fact.val (.iface T rv)).holds (u 41) w_:=hd.get 0 (by kernel_rfl)
    simp only [Fact.holds]at h41
    clear hd
    simp only [h41]at hK
    go_simp
    exact hK.out _ _ (Chg.refl _ _) rfl
   ·intro u w_ hc hd K hK
    have h48:(Fact.val (.func (.method "pith/lzenc.bit") #[.iface T rv] #[])).holds (u 48) w_:=hd.get 7 (by kernel_rfl)
    simp only [Fact.holds]at h48
    clear hd
    simp only [h48]at hK
    go_simp
    exact hK.out _ _ (Chg.refl _ _) rfl
   ·intro u w_ hc hd K hK
    have h41:(Fact.val (.iface T rv)).holds (u 41) w_:=hd.get 0 (by kernel_rfl)
    simp only [Fact.holds]at h41
    clear hd
    simp only [h41]at hK
    go_simp
    exact hK.out _ _ (Chg.refl _ _) rfl
  ·intro u w_ hc hA K hK
   have e50:u 50=(.iface T rv):=hA.at 50 (by kernel_rfl)
   have e46:u 46=(.pointer (some ⟨(D 4 0).1,0,none⟩)):=hA.at 46 (by kernel_rfl)
   have e47:u 47=(.int .i64 (n:Int)):=hA.at 47 (by kernel_rfl)
   clear hA
   simp only [e50,e46,e47]at hK⊢
   go_simp
   refine Calls.mono (P.bit _ w_ 4 0 n 1 (P.new h2 hc) (by omega) (by show 0<1;omega) hn (by omega) (by simp;omega)) ?_
   rintro z w3 ⟨rfl,h3⟩
   clear hc
   refine hK.out _ _ ?_
   clear hK
   go_wp2_with fail
   clear x7
   obtain⟨ve9,c9,hle⟩:=P.le h3
   have x8:w3.cell? ⟨a,8,none⟩=some (.pointer (some ⟨(D 5 0).1,0,none⟩)):=hle.cell 8 _ rfl
   clear hle
   refine wp_region_last (mk:=fun u=> #[_,_,_,_,_,_,_,_,_,_,_,_,_,_,_,_,_,_,_,_,_,_,_,_,_,_,_,_,_,_,_,_,_,_,_,_,_,_,_,_,_,_,_,_,_,_,_,_,_,_,_,_,u 52,u 53,u 54,u 55,u 56,u 57,u 58,u 59,u 60,u 61,u 62,u 63,_]) (F:=fun slot vv ww=>(look [(52,.val (.iface T rv)),(53,.val (.pointer (some ⟨a,0,none⟩))),(54,.val (.pointer (some ⟨a,0,none⟩))),(55,.val (.pointer (some ⟨a,0,none⟩))),(56,.val (.pointer (some ⟨a,8,none⟩))),(57,.val (.pointer (some ⟨(D 5 0).1,0,none⟩))),(58,.val (.int .i64 (n:Int))),(59,.val (.int .i64 2)),(60,.val (.int .i64 0)),(61,.val (.func (.method "pith/lzenc.bit") #[.iface T rv] #[])),(62,.val (.func (.method "pith/lzenc.bit") #[.iface T rv] #[])),(63,.val (.iface T rv))] slot).holds vv ww) (fun _=>undef) rfl (by kernel_rfl) 12 _ rfl rfl (by kernel_rfl) ?_ (fun _ v w w' hc h=>Fact.stays _ v w w' hc h) ?_ ?_
   ·repeat (refine⟨⟨_,rfl,fun _ _=>rfl⟩,?_⟩)
    exact trivial
   ·refine⟨?_,?_,?_,?_,?_,?_,?_,?_,?_,?_,?_,?_,trivial⟩
    ·intro u w_ hc hd K hK
     clear hd
     go_simp
     exact hK.out _ _ (Chg.refl _ _) rfl
    ·intro u w_ hc hd K hK
     clear hd
     go_simp
     exact hK.out _ _ (Chg.refl _ _) rfl
    ·intro u w_ hc hd K hK
     have h53:(Fact.val (.pointer (some ⟨a,0,none⟩))).holds (u 53) w_:=hd.get 1 (by kernel_rfl)
     simp only [Fact.holds]at h53
     clear hd
     simp only [h53]at hK
     go_simp
     exact hK.out _ _ (Chg.refl _ _) rfl
    ·intro u w_ hc hd K hK
     have h54:(Fact.val (.pointer (some ⟨a,0,none⟩))).holds (u 54) w_:=hd.get 2 (by kernel_rfl)
     simp only [Fact.holds]at h54
     clear hd
     simp only [h54]at hK
     go_simp
     exact hK.out _ _ (Chg.refl _ _) rfl
    ·intro u w_ hc hd K hK
     have h55:(Fact.val (.pointer (some ⟨a,0,none⟩))).holds (u 55) w_:=hd.get 3 (by kernel_rfl)
     simp only [Fact.holds]at h55
     clear hd
     simp only [h55]at hK
     go_simp
     exact hK.out _ _ (Chg.refl _ _) rfl
    ·intro u w_ hc hd K hK
     have h56:(Fact.val (.pointer (some ⟨a,8,none⟩))).holds (u 56) w_:=hd.get 4 (by kernel_rfl)
     simp only [Fact.holds]at h56
     clear hd
     simp only [h56]at hK
     have hcell:=cell_chg x8 hc
     go_simp
     exact hK.out _ _ (Chg.refl _ _) rfl
    ·intro u w_ hc hd K hK
     clear hd
     go_simp
     exact hK.out _ _ (Chg.refl _ _) rfl
    ·intro u w_ hc hd K hK
     clear hd
     go_simp
     exact hK.out _ _ (Chg.refl _ _) rfl
    ·intro u w_ hc hd K hK
     have h59:(Fact.val (.int .i64 2)).holds (u 59) w_:=hd.get 7 (by kernel_rfl)
     simp only [Fact.holds]at h59
     clear hd
     simp only [h59]at hK
     go_simp
     exact hK.out _ _ (Chg.refl _ _) rfl
    ·intro u w_ hc hd K hK
     have h52:(Fact.val (.iface T rv)).holds (u 52) w_:=hd.get 0 (by kernel_rfl)
     simp only [Fact.holds]at h52
     clear hd
     simp only [h52]at hK
     go_simp
     exact hK.out _ _ (Chg.refl _ _) rfl
    ·intro u w_ hc hd K hK
     have h61:(Fact.val (.func (.method "pith/lzenc.bit") #[.iface T rv] #[])).holds (u 61) w_:=hd.get 9 (by kernel_rfl)
     simp only [Fact.holds]at h61
     clear hd
     simp only [h61]at hK
     go_simp
     exact hK.out _ _ (Chg.refl _ _) rfl
    ·intro u w_ hc hd K hK
     have h52:(Fact.val (.iface T rv)).holds (u 52) w_:=hd.get 0 (by kernel_rfl)
     simp only [Fact.holds]at h52
     clear hd
     simp only [h52]at hK
     go_simp
     exact hK.out _ _ (Chg.refl _ _) rfl
   ·intro u w_ hc hA K hK
    have e63:u 63=(.iface T rv):=hA.at 63 (by kernel_rfl)
    have e57:u 57=(.pointer (some ⟨(D 5 0).1,0,none⟩)):=hA.at 57 (by kernel_rfl)
    have e58:u 58=(.int .i64 (n:Int)):=hA.at 58 (by kernel_rfl)
    have e60:u 60=(.int .i64 0):=hA.at 60 (by kernel_rfl)
    clear hA
    simp only [e63,e57,e58,e60]at hK⊢
    go_simp
    refine Calls.mono (P.bit _ w_ 5 0 n 0 (P.new h3 hc) (by omega) (by show 0<1;omega) hn (by omega) (by simp;omega)) ?_
    rintro z w4 ⟨rfl,h4⟩
    clear hc
    refine hK.out _ _ ?_
    clear hK
    go_wp2
    first|go_end0|(refine bodyPost_ret (results_none rfl _ _ _) rfl ?_)
    refine⟨rfl,?_⟩
    rw [List.append_assoc,List.append_assoc]at h4
    exact h4
set_option maxHeartbeats 4000000 in
set_option maxRecDepth 100000 in
theorem which3 (P:PenS T rv fb ft fk fd B a D V wa vw ea X I)(l:List Bt)(w:World)(h:I l w)(n ps:Nat)(hn:n<12)(hps:ps<2^X.p.pb.toNat)(hl:l.length+3≤87):Calls Tryz.prog 79 #[.pointer (some ⟨a,0,none⟩),.iface T rv,.int .i64 (n:Int),.int .i64 (ps:Int),.int .i64 3] w fun e w'=>e= .returned (.tuple #[])∧I (l++[⟨some (nIsRep0 n),0,1⟩,⟨some (nIsRep1 n),0,1⟩,⟨some (nIsRep2 n),0,1⟩]) w':=by
 have nb:=P.nb
 have nt:=P.nt
 have nk:=P.nk
 have mb:=P.mb
 have mt:=P.mt
 have mkk:=P.mkk
 have md:=P.md
 have eb:=P.eb
 have et:=P.et
 have ek:=P.ek
 have ed:=P.ed
 obtain⟨ve9,c9,hle⟩:=P.le h
 have x6:w.cell? ⟨a,6,none⟩=some (.pointer (some ⟨(D 3 0).1,0,none⟩)):=hle.cell 6 _ rfl
 clear hle hps
 go_enter Tryz.func79,Tryz.ntmps79
 go_wp2_with fail
 refine wp_region_last (mk:=fun u=> #[_,_,_,_,_,_,_,_,_,_,_,_,_,_,_,_,_,u 17,u 18,u 19,u 20,u 21,u 22,u 23,u 24,u 25,u 26,_,_,_,_,_,_,_,_,_,_,_,_,_,_,_,_,_,_,_,_,_,_,_,_,_,_,_,_,_,_,_,_,_,_,_,_,_,_]) (F:=fun slot vv ww=>(look [(17,.val (.iface T rv)),(18,.val (.pointer (some ⟨a,0,none⟩))),(19,.val (.pointer (some ⟨a,0,none⟩))),(20,.val (.pointer (some ⟨a,0,none⟩))),(21,.val (.pointer (some ⟨a,6,none⟩))),(22,.val (.pointer (some ⟨(D 3 0).1,0,none⟩))),(23,.val (.int .i64 (n:Int))),(24,.val (.func (.method "pith/lzenc.bit") #[.iface T rv] #[])),(25,.val (.func (.method "pith/lzenc.bit") #[.iface T rv] #[])),(26,.val (.iface T rv))] slot).holds vv ww) (fun _=>undef) rfl (by kernel_rfl) 10 _ rfl rfl (by kernel_rfl) ?_ (fun _ v w w' hc h=>Fact.stays _ v w w' hc h) ?_ ?_
 ·repeat (refine⟨⟨_,rfl,fun _ _=>rfl⟩,?_⟩)
  exact trivial
 ·refine⟨?_,?_,?_,?_,?_,?_,?_,?_,?_,?_,trivial⟩
  ·intro u w_ hc hd K hK
   clear hd
   go_simp
   exact hK.out _ _ (Chg.refl _ _) rfl
  ·intro u w_ hc hd K hK
   clear hd
   go_simp
   exact hK.out _ _ (Chg.refl _ _) rfl
  ·intro u w_ hc hd K hK
   have h18:(Fact.val (.pointer (some ⟨a,0,none⟩))).holds (u 18) w_:=hd.get 1 (by kernel_rfl)
   simp only [Fact.holds]at h18
   clear hd
   simp only [h18]at hK
   go_simp
   exact hK.out _ _ (Chg.refl _ _) rfl
  ·intro u w_ hc hd K hK
   have h19:(Fact.val (.pointer (some ⟨a,0,none⟩))).holds (u 19) w_:=hd.get 2 (by kernel_rfl)
   simp only [Fact.holds]at h19
   clear hd
   simp only [h19]at hK
   go_simp
   exact hK.out _ _ (Chg.refl _ _) rfl
  ·intro u w_ hc hd K hK
   have h20:(Fact.val (.pointer (some ⟨a,0,none⟩))).holds (u 20) w_:=hd.get 3 (by kernel_rfl)
   simp only [Fact.holds]at h20
   clear hd
   simp only [h20]at hK
   go_simp
   exact hK.out _ _ (Chg.refl _ _) rfl
  ·intro u w_ hc hd K hK
   have h21:(Fact.val (.pointer (some ⟨a,6,none⟩))).holds (u 21) w_:=hd.get 4 (by kernel_rfl)
   simp only [Fact.holds]at h21
   clear hd
   simp only [h21]at hK
   have hcell:=cell_chg x6 hc
   go_simp
   exact hK.out _ _ (Chg.refl _ _) rfl
  ·intro u w_ hc hd K hK
   clear hd
   go_simp
   exact hK.out _ _ (Chg.refl _ _) rfl
  ·intro u w_ hc hd K hK
   have h17:(Fact.val (.iface T rv)).holds (u 17) w_:=hd.get 0 (by kernel_rfl)
   simp only [Fact.holds]at h17
   clear hd
   simp only [h17]at hK
   go_simp
   exact hK.out _ _ (Chg.refl _ _) rfl
  ·intro u w_ hc hd K hK
   have h24:(Fact.val (.func (.method "pith/lzenc.bit") #[.iface T rv] #[])).holds (u 24) w_:=hd.get 7 (by kernel_rfl)
   simp only [Fact.holds]at h24
   clear hd
   simp only [h24]at hK
   go_simp
   exact hK.out _ _ (Chg.refl _ _) rfl
  ·intro u w_ hc hd K hK
   have h17:(Fact.val (.iface T rv)).holds (u 17) w_:=hd.get 0 (by kernel_rfl)
   simp only [Fact.holds]at h17
   clear hd
   simp only [h17]at hK
   go_simp
   exact hK.out _ _ (Chg.refl _ _) rfl
 ·intro u w_ hc hA K hK
  have e26:u 26=(.iface T rv):=hA.at 26 (by kernel_rfl)
  have e22:u 22=(.pointer (some ⟨(D 3 0).1,0,none⟩)):=hA.at 22 (by kernel_rfl)
  have e23:u 23=(.int .i64 (n:Int)):=hA.at 23 (by kernel_rfl)
  clear hA
  simp only [e26,e22,e23]at hK⊢
  go_simp
  refine Calls.mono (P.bit l w_ 3 0 n 1 (P.new h hc) (by omega) (by show 0<1;omega) hn (by omega) (by omega)) ?_
  rintro z w2 ⟨rfl,h2⟩
  clear hc
  refine hK.out _ _ ?_
  clear hK
  go_wp2_with fail
  clear x6
  obtain⟨ve9,c9,hle⟩:=P.le h2
  have x7:w2.cell? ⟨a,7,none⟩=some (.pointer (some ⟨(D 4 0).1,0,none⟩)):=hle.cell 7 _ rfl
  clear hle
  refine wp_region_last (mk:=fun u=> #[_,_,_,_,_,_,_,_,_,_,_,_,_,_,_,_,_,_,_,_,_,_,_,_,_,_,_,_,_,_,_,_,_,_,_,_,_,_,_,_,_,u 41,u 42,u 43,u 44,u 45,u 46,u 47,u 48,u 49,u 50,_,_,_,_,_,_,_,_,_,_,_,_,_,_]) (F:=fun slot vv ww=>(look [(41,.val (.iface T rv)),(42,.val (.pointer (some ⟨a,0,none⟩))),(43,.val (.pointer (some ⟨a,0,none⟩))),(44,.val (.pointer (some ⟨a,0,none⟩))),(45,.val (.pointer (some ⟨a,7,none⟩))),(46,.val (.pointer (some ⟨(D 4 0).1,0,none⟩))),(47,.val (.int .i64 (n:Int))),(48,.val (.func (.method "pith/lzenc.bit") #[.iface T rv] #[])),(49,.val (.func (.method "pith/lzenc.bit") #[.iface T rv] #[])),(50,.val (.iface T rv))] slot).holds vv ww) (fun _=>undef) rfl (by kernel_rfl) 10 _ rfl rfl (by kernel_rfl) ?_ (fun _ v w w' hc h=>Fact.stays _ v w w' hc h) ?_ ?_
  ·repeat (refine⟨⟨_,rfl,fun _ _=>rfl⟩,?_⟩)
   exact trivial
  ·refine⟨?_,?_,?_,?_,?_,?_,?_,?_,?_,?_,trivial⟩
   ·intro u w_ hc hd K hK
    clear hd
    go_simp
    exact hK.out _ _ (Chg.refl _ _) rfl
   ·intro u w_ hc hd K hK
    clear hd
    go_simp
    exact hK.out _ _ (Chg.refl _ _) rfl
   ·intro u w_ hc hd K hK
    have h42:(Fact.val (.pointer (some ⟨a,0,none⟩))).holds (u 42) w_:=hd.get 1 (by kernel_rfl)
    simp only [Fact.holds]at h42
    clear hd
    simp only [h42]at hK
    go_simp
    exact hK.out _ _ (Chg.refl _ _) rfl
   ·intro u w_ hc hd K hK
    have h43:(Fact.val (.pointer (some ⟨a,0,none⟩))).holds (u 43) w_:=hd.get 2 (by kernel_rfl)
    simp only [Fact.holds]at h43
    clear hd
    simp only [h43]at hK
    go_simp
    exact hK.out _ _ (Chg.refl _ _) rfl
   ·intro u w_ hc hd K hK
    have h44:(Fact.val (.pointer (some ⟨a,0,none⟩))).holds (u 44) w_:=hd.get 3 (by kernel_rfl)
    simp only [Fact.holds]at h44
    clear hd
    simp only [h44]at hK
    go_simp
    exact hK.out _ _ (Chg.refl _ _) rfl
   ·intro u w_ hc hd K hK
    have h45:(Fact.val (.pointer (some ⟨a,7,none⟩))).holds (u 45) w_:=hd.get 4 (by kernel_rfl)
    simp only [Fact.holds]at h45
    clear hd
    simp only [h45]at hK
    have hcell:=cell_chg x7 hc
    go_simp
    exact hK.out _ _ (Chg.refl _ _) rfl
   ·intro u w_ hc hd K hK
    clear hd
    go_simp
    exact hK.out _ _ (Chg.refl _ _) rfl
   ·intro u w_ hc hd K hK
    have h41:(Fact.val (.iface T rv)).holds (u 41) w_:=hd.get 0 (by kernel_rfl)
    simp only [Fact.holds]at h41
    clear hd
    simp only [h41]at hK
    go_simp
    exact hK.out _ _ (Chg.refl _ _) rfl
   ·intro u w_ hc hd K hK
    have h48:(Fact.val (.func (.method "pith/lzenc.bit") #[.iface T rv] #[])).holds (u 48) w_:=hd.get 7 (by kernel_rfl)
    simp only [Fact.holds]at h48
    clear hd
    simp only [h48]at hK
    go_simp
    exact hK.out _ _ (Chg.refl _ _) rfl
   ·intro u w_ hc hd K hK
    have h41:(Fact.val (.iface T rv)).holds (u 41) w_:=hd.get 0 (by kernel_rfl)
    simp only [Fact.holds]at h41
    clear hd
    simp only [h41]at hK
    go_simp
    exact hK.out _ _ (Chg.refl _ _) rfl
  ·intro u w_ hc hA K hK
   have e50:u 50=(.iface T rv):=hA.at 50 (by kernel_rfl)
   have e46:u 46=(.pointer (some ⟨(D 4 0).1,0,none⟩)):=hA.at 46 (by kernel_rfl)
   have e47:u 47=(.int .i64 (n:Int)):=hA.at 47 (by kernel_rfl)
   clear hA
   simp only [e50,e46,e47]at hK⊢
   go_simp
   refine Calls.mono (P.bit _ w_ 4 0 n 1 (P.new h2 hc) (by omega) (by show 0<1;omega) hn (by omega) (by simp;omega)) ?_
   rintro z w3 ⟨rfl,h3⟩
   clear hc
   refine hK.out _ _ ?_
   clear hK
   go_wp2_with fail
   clear x7
   obtain⟨ve9,c9,hle⟩:=P.le h3
   have x8:w3.cell? ⟨a,8,none⟩=some (.pointer (some ⟨(D 5 0).1,0,none⟩)):=hle.cell 8 _ rfl
   clear hle
   refine wp_region_last (mk:=fun u=> #[_,_,_,_,_,_,_,_,_,_,_,_,_,_,_,_,_,_,_,_,_,_,_,_,_,_,_,_,_,_,_,_,_,_,_,_,_,_,_,_,_,_,_,_,_,_,_,_,_,_,_,_,u 52,u 53,u 54,u 55,u 56,u 57,u 58,u 59,u 60,u 61,u 62,u 63,_]) (F:=fun slot vv ww=>(look [(52,.val (.iface T rv)),(53,.val (.pointer (some ⟨a,0,none⟩))),(54,.val (.pointer (some ⟨a,0,none⟩))),(55,.val (.pointer (some ⟨a,0,none⟩))),(56,.val (.pointer (some ⟨a,8,none⟩))),(57,.val (.pointer (some ⟨(D 5 0).1,0,none⟩))),(58,.val (.int .i64 (n:Int))),(59,.val (.int .i64 3)),(60,.val (.int .i64 1)),(61,.val (.func (.method "pith/lzenc.bit") #[.iface T rv] #[])),(62,.val (.func (.method "pith/lzenc.bit") #[.iface T rv] #[])),(63,.val (.iface T rv))] slot).holds vv ww) (fun _=>undef) rfl (by kernel_rfl) 12 _ rfl rfl (by kernel_rfl) ?_ (fun _ v w w' hc h=>Fact.stays _ v w w' hc h) ?_ ?_
   ·repeat (refine⟨⟨_,rfl,fun _ _=>rfl⟩,?_⟩)
    exact trivial
   ·refine⟨?_,?_,?_,?_,?_,?_,?_,?_,?_,?_,?_,?_,trivial⟩
    ·intro u w_ hc hd K hK
     clear hd
     go_simp
     exact hK.out _ _ (Chg.refl _ _) rfl
    ·intro u w_ hc hd K hK
     clear hd
     go_simp
     exact hK.out _ _ (Chg.refl _ _) rfl
    ·intro u w_ hc hd K hK
     have h53:(Fact.val (.pointer (some ⟨a,0,none⟩))).holds (u 53) w_:=hd.get 1 (by kernel_rfl)
     simp only [Fact.holds]at h53
     clear hd
     simp only [h53]at hK
     go_simp
     exact hK.out _ _ (Chg.refl _ _) rfl
    ·intro u w_ hc hd K hK
     have h54:(Fact.val (.pointer (some ⟨a,0,none⟩))).holds (u 54) w_:=hd.get 2 (by kernel_rfl)
     simp only [Fact.holds]at h54
     clear hd
     simp only [h54]at hK
     go_simp
     exact hK.out _ _ (Chg.refl _ _) rfl
    ·intro u w_ hc hd K hK
     have h55:(Fact.val (.pointer (some ⟨a,0,none⟩))).holds (u 55) w_:=hd.get 3 (by kernel_rfl)
     simp only [Fact.holds]at h55
     clear hd
     simp only [h55]at hK
     go_simp
     exact hK.out _ _ (Chg.refl _ _) rfl
    ·intro u w_ hc hd K hK
     have h56:(Fact.val (.pointer (some ⟨a,8,none⟩))).holds (u 56) w_:=hd.get 4 (by kernel_rfl)
     simp only [Fact.holds]at h56
     clear hd
     simp only [h56]at hK
     have hcell:=cell_chg x8 hc
     go_simp
     exact hK.out _ _ (Chg.refl _ _) rfl
    ·intro u w_ hc hd K hK
     clear hd
     go_simp
     exact hK.out _ _ (Chg.refl _ _) rfl
    ·intro u w_ hc hd K hK
     clear hd
     go_simp
     exact hK.out _ _ (Chg.refl _ _) rfl
    ·intro u w_ hc hd K hK
     have h59:(Fact.val (.int .i64 3)).holds (u 59) w_:=hd.get 7 (by kernel_rfl)
     simp only [Fact.holds]at h59
     clear hd
     simp only [h59]at hK
     go_simp
     exact hK.out _ _ (Chg.refl _ _) rfl
    ·intro u w_ hc hd K hK
     have h52:(Fact.val (.iface T rv)).holds (u 52) w_:=hd.get 0 (by kernel_rfl)
     simp only [Fact.holds]at h52
     clear hd
     simp only [h52]at hK
     go_simp
     exact hK.out _ _ (Chg.refl _ _) rfl
    ·intro u w_ hc hd K hK
     have h61:(Fact.val (.func (.method "pith/lzenc.bit") #[.iface T rv] #[])).holds (u 61) w_:=hd.get 9 (by kernel_rfl)
     simp only [Fact.holds]at h61
     clear hd
     simp only [h61]at hK
     go_simp
     exact hK.out _ _ (Chg.refl _ _) rfl
    ·intro u w_ hc hd K hK
     have h52:(Fact.val (.iface T rv)).holds (u 52) w_:=hd.get 0 (by kernel_rfl)
     simp only [Fact.holds]at h52
     clear hd
     simp only [h52]at hK
     go_simp
     exact hK.out _ _ (Chg.refl _ _) rfl
   ·intro u w_ hc hA K hK
    have e63:u 63=(.iface T rv):=hA.at 63 (by kernel_rfl)
    have e57:u 57=(.pointer (some ⟨(D 5 0).1,0,none⟩)):=hA.at 57 (by kernel_rfl)
    have e58:u 58=(.int .i64 (n:Int)):=hA.at 58 (by kernel_rfl)
    have e60:u 60=(.int .i64 1):=hA.at 60 (by kernel_rfl)
    clear hA
    simp only [e63,e57,e58,e60]at hK⊢
    go_simp
    refine Calls.mono (P.bit _ w_ 5 0 n 1 (P.new h3 hc) (by omega) (by show 0<1;omega) hn (by omega) (by simp;omega)) ?_
    rintro z w4 ⟨rfl,h4⟩
    clear hc
    refine hK.out _ _ ?_
    clear hK
    go_wp2
    first|go_end0|(refine bodyPost_ret (results_none rfl _ _ _) rfl ?_)
    refine⟨rfl,?_⟩
    rw [List.append_assoc,List.append_assoc]at h4
    exact h4
end Go.Proofs.YthideplpcnhncaaGreatDoor
