/- Of no statement by itself: Jj, Jk, Ys, Jl (without blanks and remarks). -/
import Derived.Test.YthideplpcnhncaaGreatDoorB20Pf
import Derived.Test.YthideplpcnhncaaGreatDoorB16Jd
import Derived.Test.YthideplpcnhncaaGreatDoorB4Wb
import Derived.Test.YthideplpcnhncaaGreatDoorB13Vj
import Derived.Test.YthideplpcnhncaaGreatDoorB19Sj
import Derived.Test.YthideplpcnhncaaGreatDoorB1LastQ
namespace Go.Proofs.YthideplpcnhncaaGreatDoor
open Go.RowKit
open St12 Sy13 Lz14
set_option linter.unusedVariables false
set_option linter.unusedSimpArgs false
variable {T:TypeId} {rv:Value} {fb ft fk fd B a:Nat} {D:Dir} {V:Lst} {wa:Nat} {vw:Value} {ea:Nat} {X:Lz} {I:List Bt→World→Prop}
theorem tw_len (nm:Nm)(v:Nat): ∀i m,(tw nm v i m).length=i
 |0,_=>rfl
 |i+1,m=>by simp [tw,tw_len nm v i]
theorem treeB_len' (nm:Nm)(n v:Nat):(treeB nm n v).length=n:=tw_len nm v n 1
theorem rawB_len' (x:Nat): ∀i,(rawB x i).length=i
 |0=>rfl
 |i+1=>by simp [rawB,rawB_len' x i]
set_option maxHeartbeats 4000000 in
set_option maxRecDepth 100000 in
theorem far_any (P:PenS T rv fb ft fk fd B a D V wa vw ea X I)(S:StSpec Tab)(l:List Bt)(w:World)(h:I l w)(n d:Nat)(hn1:2≤n)(hn2:n≤273)(h1:1≤d)(h2:d≤4294967295)(hl:l.length+36≤87):Calls Tryz.prog 77 #[.pointer (some ⟨a,0,none⟩),.iface T rv,.int .i64 (n:Int),.int .i64 (d:Int)] w fun e w'=>e= .returned (.tuple #[])∧I (l++distB n d) w':=by
 have nb:=P.nb
 have nt:=P.nt
 have nk:=P.nk
 have mb:=P.mb
 have mt:=P.mt
 have mkk:=P.mkk
 have md:=P.md
 have eb:=P.eb
 have et:=P.et
 have ek:=P.ek
 have ed:=P.ed
 obtain⟨sl,hsl⟩: ∃sl,slotN d=sl:=⟨_,rfl⟩
 obtain⟨le,hle⟩: ∃le,least sl=le:=⟨_,rfl⟩
 obtain⟨nb,hnb⟩: ∃nb,bitsN sl=nb:=⟨_,rfl⟩
 obtain⟨k,hk⟩: ∃k,min (n-2) 3=k:=⟨_,rfl⟩
 have hsl63:sl≤63:=by rw [←hsl];exact slot_le d
 have hled:le≤d:=by rw [←hle,←hsl];exact slotN_le h1
 have htop:d<le+2^nb:=by rw [←hle,←hnb,←hsl];exact slotN_top h1 h2
 obtain⟨rr,hrr⟩: ∃rr,d-le=rr:=⟨_,rfl⟩
 have hri:(d:Int)-(le:Int)=(rr:Int):=by omega
 have HRL:Hid (rr<2^nb):=by show _<_;omega
 have HNB:Hid (bitsN sl=nb):=hnb
 have hnb30:nb≤30:=by rw [←hnb];exact bits_le hsl63
 have HSL:Hid (∀u,Tab u→Calls Tryz.prog 123 #[.int .i64 (d:Int)] u fun e w'=>e= .returned (.tuple #[.int .i64 (sl:Int),.int .i64 0])∧Chg (fun _=>False) u w'):=fun u hu=>by
  have h9:=S.slot (d:Int) u hu ⟨by omega,by omega⟩
  rw [show slotA (d:Int)=((sl:Int),0)from by unfold slotA;rw [if_pos (by omega),Int.toNat_natCast,hsl]]at h9
  exact h9
 have HRG:Hid (∀u,Tab u→Calls Tryz.prog 124 #[.int .i64 (sl:Int)] u fun e w'=>e= .returned (.tuple #[.int .i64 (le:Int),.int .i64 (nb:Int),.int .i64 0])∧Chg (fun _=>False) u w'):=fun u hu=>by
  have h9:=S.range (sl:Int) u hu ⟨by omega,by omega⟩
  rw [show rangeA (sl:Int)=((le:Int),(nb:Int),0)from by unfold rangeA;rw [if_pos (by omega),Int.toNat_natCast,hle,hnb]]at h9
  exact h9
 have HDB:Hid (distB n d=treeB (nSlot k) 6 sl++farB sl rr):=by show _=_;unfold distB;rw [hk,hsl,hle,hrr]
 have hk4:k<4:=by omega
 have HK:Hid (min (n-2) 3=k):=hk
 have hsli:(sl:Int)≤63:=by omega
 have hnbi:(nb:Int)≤30:=by omega
 have hrri:(rr:Int)≤4294967295:=by omega
 have hLI:(le:Int)≤4294967295:=by omega
 have hPI:(d:Int)≤4294967295:=by omega
 clear hsl hle hnb hrr htop hled hk h1
 go_enter Tryz.func77,Tryz.ntmps77
 go_wp2_with fail
 refine Calls.mono (HSL.out w (P.tab h)) ?_
 rintro z w1 ⟨rfl,c1⟩
 have h1:=P.new h c1
 clear c1
 go_wp2_with fail
 refine Calls.mono (HRG.out w1 (P.tab h1)) ?_
 rintro z w2 ⟨rfl,c2⟩
 have h2':=P.new h1 c2
 clear c2 h h1
 go_upto_region 3 with fail
 obtain⟨ve9,c9,hle⟩:=P.le h2'
 obtain⟨gs,ks,es,cs⟩:=hle.ptr 15 (by omega) rfl k hk4
 have xs:w2.cell? ⟨a,18,none⟩=some (.slice (some ⟨gs,0,none⟩) 4 ks):=(hle.cell 18 _ rfl).trans (congrArg some es)
 have cs2:w2.cell? ⟨gs,min (n-2) 3,none⟩=some (.pointer (some ⟨(D 15 k).1,0,none⟩)):=by rw [HK.out];exact cs
 clear es hle cs
 refine wp_region_last (mk:=fun u=> #[_,_,_,_,_,_,_,_,_,_,_,_,_,_,_,_,_,_,_,_,_,_,_,_,_,_,_,_,u 28,u 29,u 30,u 31,u 32,u 33,u 34,u 35,u 36,u 37,_,_,_,_,_,_,_,_,_,_,_,_,_,_,_,_,_,_,_,_,_,_,_,_,_,_,_,_,_,_,_,_,_,_,_,_,_,_,_,_,_]) (F:=fun slot vv ww=>(look [(28,.val (.iface T rv)),(29,.val (.pointer (some ⟨a,0,none⟩))),(30,.val (.pointer (some ⟨a,0,none⟩))),(31,.val (.pointer (some ⟨a,0,none⟩))),(32,.val (.int .i64 (n:Int))),(33,.val (.pointer (some ⟨(D 15 k).1,0,none⟩))),(34,.val (.int .i64 (sl:Int))),(35,.val (.func (.method "pith/lzenc.tree") #[.iface T rv] #[])),(36,.val (.func (.method "pith/lzenc.tree") #[.iface T rv] #[])),(37,.val (.iface T rv))] slot).holds vv ww) (fun _=>undef) rfl (by kernel_rfl) 10 _ rfl rfl (by kernel_rfl) ?_ (fun _ v w w' hc h=>Fact.stays _ v w w' hc h) ?_ ?_
 ·repeat (refine⟨⟨_,rfl,fun _ _=>rfl⟩,?_⟩)
  exact trivial
 ·refine⟨?_,?_,?_,?_,?_,?_,?_,?_,?_,?_,trivial⟩
  ·intro u w_ hc hd K hK
   clear hd
   go_simp
   exact hK.out _ _ (Chg.refl _ _) rfl
  ·intro u w_ hc hd K hK
   clear hd
   go_simp
   exact hK.out _ _ (Chg.refl _ _) rfl
  ·intro u w_ hc hd K hK
   have h29:(Fact.val (.pointer (some ⟨a,0,none⟩))).holds (u 29) w_:=hd.get 1 (by kernel_rfl)
   simp only [Fact.holds]at h29
   clear hd
   simp only [h29]at hK
   go_simp
   exact hK.out _ _ (Chg.refl _ _) rfl
  ·intro u w_ hc hd K hK
   have h30:(Fact.val (.pointer (some ⟨a,0,none⟩))).holds (u 30) w_:=hd.get 2 (by kernel_rfl)
   simp only [Fact.holds]at h30
   clear hd
   simp only [h30]at hK
   go_simp
   exact hK.out _ _ (Chg.refl _ _) rfl
  ·intro u w_ hc hd K hK
   clear hd
   go_simp
   exact hK.out _ _ (Chg.refl _ _) rfl
  ·intro u w_ hc hd K hK
   have h31:(Fact.val (.pointer (some ⟨a,0,none⟩))).holds (u 31) w_:=hd.get 3 (by kernel_rfl)
   simp only [Fact.holds]at h31
   have h32:(Fact.val (.int .i64 (n:Int))).holds (u 32) w_:=hd.get 4 (by kernel_rfl)
   simp only [Fact.holds]at h32
   clear hd
   simp only [h31,h32]at hK
   go_simp
   refine Calls.mono (slottree_any a gs ks n hn1 hn2 w_ _ (cell_chg xs hc) (cell_chg cs2 hc)) ?_
   rintro z w2 ⟨rfl,rfl⟩
   exact hK.out _ _ (Chg.refl _ _) rfl
  ·intro u w_ hc hd K hK
   clear hd
   go_simp
   exact hK.out _ _ (Chg.refl _ _) rfl
  ·intro u w_ hc hd K hK
   have h28:(Fact.val (.iface T rv)).holds (u 28) w_:=hd.get 0 (by kernel_rfl)
   simp only [Fact.holds]at h28
   clear hd
   simp only [h28]at hK
   go_simp
   exact hK.out _ _ (Chg.refl _ _) rfl
  ·intro u w_ hc hd K hK
   have h35:(Fact.val (.func (.method "pith/lzenc.tree") #[.iface T rv] #[])).holds (u 35) w_:=hd.get 7 (by kernel_rfl)
   simp only [Fact.holds]at h35
   clear hd
   simp only [h35]at hK
   go_simp
   exact hK.out _ _ (Chg.refl _ _) rfl
  ·intro u w_ hc hd K hK
   have h28:(Fact.val (.iface T rv)).holds (u 28) w_:=hd.get 0 (by kernel_rfl)
   simp only [Fact.holds]at h28
   clear hd
   simp only [h28]at hK
   go_simp
   exact hK.out _ _ (Chg.refl _ _) rfl
 ·intro u w_ hc hA K hK
  have e37:u 37=(.iface T rv):=hA.at 37 (by kernel_rfl)
  have e33:u 33=(.pointer (some ⟨(D 15 k).1,0,none⟩)):=hA.at 33 (by kernel_rfl)
  have e34:u 34=(.int .i64 (sl:Int)):=hA.at 34 (by kernel_rfl)
  clear hA
  simp only [e37,e33,e34]at hK⊢
  go_simp
  refine Calls.mono (P.tree l w_ 15 k 6 sl (P.new h2' hc) (by unfold Lz14.lone;omega) hk4 (by omega) (by show 64≤64;omega) (by show sl<64;omega) (by omega)) ?_
  rintro z w3 ⟨rfl,h3⟩
  clear hc
  refine hK.out _ _ ?_
  clear hK
  clear xs cs2
  by_cases s4:sl<4
  ·have HE:Hid (farB sl rr=[]):=by show _=_;unfold farB;rw [if_pos s4]
   have d4:decide ((sl:Int)<4)=true:=by simp;omega
   go_wp2
   first|go_end0|(refine bodyPost_ret (results_none rfl _ _ _) rfl ?_)
   refine⟨rfl,?_⟩
   rw [HDB.out,HE.out,List.append_nil]
   exact h3
  by_cases s14:sl<14
  ·obtain⟨s4,hs4⟩: ∃s4,sl=s4+4:=⟨sl-4,by omega⟩
   have HE:Hid (farB sl rr=wayB (nRest (s4+4)) nb rr):=by show _=_;unfold farB;rw [if_neg (by omega),if_pos (by omega),HNB.out,hs4]
   have HS4:Hid ((sl:Int)-4=(s4:Int)):=by show _=_;omega
   have HS4W:Hid (IntKind.i64.wrap ((sl:Int)-4)=(s4:Int)):=by show _=_;rw [IntKind.wrap_i64];omega
   have hs10:s4<10:=by omega
   have hs10i:(s4:Int)<10:=by omega
   have HN5:Hid (nb≤5):=by have h9:=HNB.out;show _≤_;unfold bitsN at h9;split at h9<;>omega
   have d4:decide ((sl:Int)<4)=false:=by simp;omega
   have d14:decide ((sl:Int)<14)=true:=by simp;omega
   clear hs4
   go_upto_region 8 with fail
   obtain⟨ve9,c9,hle⟩:=P.le h3
   obtain⟨gl,kl,el,cl⟩:=hle.ptr 16 (by omega) rfl s4 hs10
   have xl:w3.cell? ⟨a,19,none⟩=some (.slice (some ⟨gl,0,none⟩) 10 kl):=(hle.cell 19 _ rfl).trans (congrArg some el)
   clear el
   clear hle
   refine wp_region_last (mk:=fun u=> #[_,_,_,_,_,_,_,_,_,_,_,_,_,_,_,_,_,_,_,_,_,_,_,_,_,_,_,_,_,_,_,_,_,_,_,_,_,_,_,_,_,_,_,_,_,_,_,_,_,_,_,_,_,_,_,_,_,_,_,_,_,_,_,u 63,u 64,u 65,u 66,u 67,u 68,u 69,u 70,u 71,u 72,u 73,u 74,u 75,u 76,u 77,_]) (F:=fun slot vv ww=>(look [(63,.val (.iface T rv)),(64,.val (.pointer (some ⟨a,0,none⟩))),(65,.val (.pointer (some ⟨a,0,none⟩))),(66,.val (.pointer (some ⟨a,0,none⟩))),(67,.val (.pointer (some ⟨a,19,none⟩))),(68,.val (.slice (some ⟨gl,0,none⟩) 10 kl)),(69,.val (.int .i64 (sl:Int))),(70,.val (.int .i64 (s4:Int))),(71,.val (.pointer (some ⟨gl,s4,none⟩))),(72,.val (.pointer (some ⟨(D 16 s4).1,0,none⟩))),(73,.val (.int .i64 (nb:Int))),(74,.val (.int .i64 (rr:Int))),(75,.val (.func (.method "pith/lzenc.back") #[.iface T rv] #[])),(76,.val (.func (.method "pith/lzenc.back") #[.iface T rv] #[])),(77,.val (.iface T rv))] slot).holds vv ww) (fun _=>undef) rfl (by kernel_rfl) 15 _ rfl rfl (by kernel_rfl) ?_ (fun _ v w w' hc h=>Fact.stays _ v w w' hc h) ?_ ?_
   ·repeat (refine⟨⟨_,rfl,fun _ _=>rfl⟩,?_⟩)
    exact trivial
   ·refine⟨?_,?_,?_,?_,?_,?_,?_,?_,?_,?_,?_,?_,?_,?_,?_,trivial⟩
    ·intro u w_ hc hd K hK
     clear hd
     go_simp
     exact hK.out _ _ (Chg.refl _ _) rfl
    ·intro u w_ hc hd K hK
     clear hd
     go_simp
     exact hK.out _ _ (Chg.refl _ _) rfl
    ·intro u w_ hc hd K hK
     have h64:(Fact.val (.pointer (some ⟨a,0,none⟩))).holds (u 64) w_:=hd.get 1 (by kernel_rfl)
     simp only [Fact.holds]at h64
     clear hd
     simp only [h64]at hK
     go_simp
     exact hK.out _ _ (Chg.refl _ _) rfl
    ·intro u w_ hc hd K hK
     have h65:(Fact.val (.pointer (some ⟨a,0,none⟩))).holds (u 65) w_:=hd.get 2 (by kernel_rfl)
     simp only [Fact.holds]at h65
     clear hd
     simp only [h65]at hK
     go_simp
     exact hK.out _ _ (Chg.refl _ _) rfl
    ·intro u w_ hc hd K hK
     have h66:(Fact.val (.pointer (some ⟨a,0,none⟩))).holds (u 66) w_:=hd.get 3 (by kernel_rfl)
     simp only [Fact.holds]at h66
     clear hd
     simp only [h66]at hK
     go_simp
     exact hK.out _ _ (Chg.refl _ _) rfl
    ·intro u w_ hc hd K hK
     have h67:(Fact.val (.pointer (some ⟨a,19,none⟩))).holds (u 67) w_:=hd.get 4 (by kernel_rfl)
     simp only [Fact.holds]at h67
     clear hd
     simp only [h67]at hK
     have hcell:=cell_chg xl hc
     go_simp
     exact hK.out _ _ (Chg.refl _ _) rfl
    ·intro u w_ hc hd K hK
     clear hd
     go_simp
     exact hK.out _ _ (Chg.refl _ _) rfl
    ·intro u w_ hc hd K hK
     have h69:(Fact.val (.int .i64 (sl:Int))).holds (u 69) w_:=hd.get 6 (by kernel_rfl)
     simp only [Fact.holds]at h69
     clear hd
     simp only [h69]at hK
     go_simp
     first|rw [HS4W.out]|rw [HS4.out]
     exact hK.out _ _ (Chg.refl _ _) rfl
    ·intro u w_ hc hd K hK
     have h68:(Fact.val (.slice (some ⟨gl,0,none⟩) 10 kl)).holds (u 68) w_:=hd.get 5 (by kernel_rfl)
     simp only [Fact.holds]at h68
     have h70:(Fact.val (.int .i64 (s4:Int))).holds (u 70) w_:=hd.get 7 (by kernel_rfl)
     simp only [Fact.holds]at h70
     clear hd
     simp only [h68,h70]at hK
     go_simp
     exact hK.out _ _ (Chg.refl _ _) rfl
    ·intro u w_ hc hd K hK
     have h71:(Fact.val (.pointer (some ⟨gl,s4,none⟩))).holds (u 71) w_:=hd.get 8 (by kernel_rfl)
     simp only [Fact.holds]at h71
     clear hd
     simp only [h71]at hK
     have hcell:=cell_chg cl hc
     go_simp
     exact hK.out _ _ (Chg.refl _ _) rfl
    ·intro u w_ hc hd K hK
     clear hd
     go_simp
     exact hK.out _ _ (Chg.refl _ _) rfl
    ·intro u w_ hc hd K hK
     clear hd
     go_simp
     exact hK.out _ _ (Chg.refl _ _) rfl
    ·intro u w_ hc hd K hK
     have h63:(Fact.val (.iface T rv)).holds (u 63) w_:=hd.get 0 (by kernel_rfl)
     simp only [Fact.holds]at h63
     clear hd
     simp only [h63]at hK
     go_simp
     exact hK.out _ _ (Chg.refl _ _) rfl
    ·intro u w_ hc hd K hK
     have h75:(Fact.val (.func (.method "pith/lzenc.back") #[.iface T rv] #[])).holds (u 75) w_:=hd.get 12 (by kernel_rfl)
     simp only [Fact.holds]at h75
     clear hd
     simp only [h75]at hK
     go_simp
     exact hK.out _ _ (Chg.refl _ _) rfl
    ·intro u w_ hc hd K hK
     have h63:(Fact.val (.iface T rv)).holds (u 63) w_:=hd.get 0 (by kernel_rfl)
     simp only [Fact.holds]at h63
     clear hd
     simp only [h63]at hK
     go_simp
     exact hK.out _ _ (Chg.refl _ _) rfl
   ·intro u w_ hc hA K hK
    have e77:u 77=(.iface T rv):=hA.at 77 (by kernel_rfl)
    have e72:u 72=(.pointer (some ⟨(D 16 s4).1,0,none⟩)):=hA.at 72 (by kernel_rfl)
    have e73:u 73=(.int .i64 (nb:Int)):=hA.at 73 (by kernel_rfl)
    have e74:u 74=(.int .i64 (rr:Int)):=hA.at 74 (by kernel_rfl)
    clear hA
    simp only [e77,e72,e73,e74]at hK⊢
    go_simp
    refine Calls.mono (P.back _ w_ 16 s4 nb rr (P.new h3 hc) (by unfold Lz14.lone;omega) hs10 (by have:=HN5.out;omega) (by show 2^nb≤32;exact Nat.pow_le_pow_right (n:=2) (by omega) HN5.out) HRL.out (by have:=HN5.out;rw [List.length_append,treeB_len'];omega)) ?_
    rintro z w4 ⟨rfl,h4⟩
    clear hc
    refine hK.out _ _ ?_
    clear hK
    go_wp2
    first|go_end0|(refine bodyPost_ret (results_none rfl _ _ _) rfl ?_)
    refine⟨rfl,?_⟩
    rw [HDB.out,HE.out]
    rw [List.append_assoc]at h4
    exact h4
  have d4:decide ((sl:Int)<4)=false:=by simp;omega
  have d14:decide ((sl:Int)<14)=false:=by simp;omega
  obtain⟨nr,hnr⟩: ∃nr,nb-4=nr:=⟨_,rfl⟩
  have HN6:Hid (6≤nb):=by have h9:=HNB.out;show _≤_;unfold bitsN at h9;split at h9<;>omega
  have hnri:(nb:Int)-4=(nr:Int):=by have:=HN6.out;omega
  have hnr26:nr≤26:=by omega
  obtain⟨y,hy⟩: ∃y,rr/16=y:=⟨_,rfl⟩
  obtain⟨zz,hz⟩: ∃zz,rr% 16=zz:=⟨_,rfl⟩
  have HE:Hid (farB sl rr=rawB y nr++wayB nAlign 4 zz):=by show _=_;unfold farB;rw [if_neg (by omega),if_neg (by omega),HNB.out,hnr,hy,hz]
  have HY:Hid ((rr:Int)/16=(y:Int)):=by show _=_;omega
  have HAN:Hid (bits .and .i64 (rr:Int) 15=(zz:Int)):=by
   have h9:=and_mask rr 4 (by omega) (by omega)
   show _=_
   rw [←hz]
   exact h9
  have hyb:y≤4294967295:=by omega
  have hzb:zz<16:=by omega
  have HQD:Hid (∀w_,I (l++treeB (nSlot k) 6 sl) w_→Calls Tryz.prog fd #[rv,.int .i64 (y:Int),.int .i64 (nr:Int)] w_ fun e w'=>e= .returned (.tuple #[])∧I ((l++treeB (nSlot k) 6 sl)++rawB y nr) w'):=fun w_ h9=>P.direct _ w_ y nr h9 hyb hnr26 (by rw [List.length_append,treeB_len'];omega)
  clear hnr hy hz
  have hY:=HY.out
  go_wp2_with fail
  refine Calls.mono (HQD.out w3 h3) ?_
  rintro z w4 ⟨rfl,h4⟩
  clear hY h3
  go_upto_region 5 with fail
  obtain⟨ve9,c9,hle⟩:=P.le h4
  have x17:w4.cell? ⟨a,20,none⟩=some (.pointer (some ⟨(D 17 0).1,0,none⟩)):=hle.cell 20 _ rfl
  clear hle
  refine wp_region_last (mk:=fun u=> #[_,_,_,_,_,_,_,_,_,_,_,_,_,_,_,_,_,_,_,_,_,_,_,_,_,_,_,_,_,_,_,_,_,_,_,_,_,_,_,_,_,_,_,_,_,u 45,u 46,u 47,u 48,u 49,u 50,u 51,u 52,u 53,u 54,u 55,_,_,_,_,_,_,_,_,_,_,_,_,_,_,_,_,_,_,_,_,_,_,_]) (F:=fun slot vv ww=>(look [(45,.val (.iface T rv)),(46,.val (.pointer (some ⟨a,0,none⟩))),(47,.val (.pointer (some ⟨a,0,none⟩))),(48,.val (.pointer (some ⟨a,0,none⟩))),(49,.val (.pointer (some ⟨a,20,none⟩))),(50,.val (.pointer (some ⟨(D 17 0).1,0,none⟩))),(51,.val (.int .i64 (rr:Int))),(52,.val (.int .i64 (zz:Int))),(53,.val (.func (.method "pith/lzenc.back") #[.iface T rv] #[])),(54,.val (.func (.method "pith/lzenc.back") #[.iface T rv] #[])),(55,.val (.iface T rv))] slot).holds vv ww) (fun _=>undef) rfl (by kernel_rfl) 11 _ rfl rfl (by kernel_rfl) ?_ (fun _ v w w' hc h=>Fact.stays _ v w w' hc h) ?_ ?_
  ·repeat (refine⟨⟨_,rfl,fun _ _=>rfl⟩,?_⟩)
   exact trivial
  ·refine⟨?_,?_,?_,?_,?_,?_,?_,?_,?_,?_,?_,trivial⟩
   ·intro u w_ hc hd K hK
    clear hd
    go_simp
    exact hK.out _ _ (Chg.refl _ _) rfl
   ·intro u w_ hc hd K hK
    clear hd
    go_simp
    exact hK.out _ _ (Chg.refl _ _) rfl
   ·intro u w_ hc hd K hK
    have h46:(Fact.val (.pointer (some ⟨a,0,none⟩))).holds (u 46) w_:=hd.get 1 (by kernel_rfl)
    simp only [Fact.holds]at h46
    clear hd
    simp only [h46]at hK
    go_simp
    exact hK.out _ _ (Chg.refl _ _) rfl
   ·intro u w_ hc hd K hK
    have h47:(Fact.val (.pointer (some ⟨a,0,none⟩))).holds (u 47) w_:=hd.get 2 (by kernel_rfl)
    simp only [Fact.holds]at h47
    clear hd
    simp only [h47]at hK
    go_simp
    exact hK.out _ _ (Chg.refl _ _) rfl
   ·intro u w_ hc hd K hK
    have h48:(Fact.val (.pointer (some ⟨a,0,none⟩))).holds (u 48) w_:=hd.get 3 (by kernel_rfl)
    simp only [Fact.holds]at h48
    clear hd
    simp only [h48]at hK
    go_simp
    exact hK.out _ _ (Chg.refl _ _) rfl
   ·intro u w_ hc hd K hK
    have h49:(Fact.val (.pointer (some ⟨a,20,none⟩))).holds (u 49) w_:=hd.get 4 (by kernel_rfl)
    simp only [Fact.holds]at h49
    clear hd
    simp only [h49]at hK
    have hcell:=cell_chg x17 hc
    go_simp
    exact hK.out _ _ (Chg.refl _ _) rfl
   ·intro u w_ hc hd K hK
    clear hd
    go_simp
    exact hK.out _ _ (Chg.refl _ _) rfl
   ·intro u w_ hc hd K hK
    have h51:(Fact.val (.int .i64 (rr:Int))).holds (u 51) w_:=hd.get 6 (by kernel_rfl)
    simp only [Fact.holds]at h51
    clear hd
    simp only [h51]at hK
    go_simp
    rw [HAN.out]
    exact hK.out _ _ (Chg.refl _ _) rfl
   ·intro u w_ hc hd K hK
    have h45:(Fact.val (.iface T rv)).holds (u 45) w_:=hd.get 0 (by kernel_rfl)
    simp only [Fact.holds]at h45
    clear hd
    simp only [h45]at hK
    go_simp
    exact hK.out _ _ (Chg.refl _ _) rfl
   ·intro u w_ hc hd K hK
    have h53:(Fact.val (.func (.method "pith/lzenc.back") #[.iface T rv] #[])).holds (u 53) w_:=hd.get 8 (by kernel_rfl)
    simp only [Fact.holds]at h53
    clear hd
    simp only [h53]at hK
    go_simp
    exact hK.out _ _ (Chg.refl _ _) rfl
   ·intro u w_ hc hd K hK
    have h45:(Fact.val (.iface T rv)).holds (u 45) w_:=hd.get 0 (by kernel_rfl)
    simp only [Fact.holds]at h45
    clear hd
    simp only [h45]at hK
    go_simp
    exact hK.out _ _ (Chg.refl _ _) rfl
  ·intro u w_ hc hA K hK
   have e55:u 55=(.iface T rv):=hA.at 55 (by kernel_rfl)
   have e50:u 50=(.pointer (some ⟨(D 17 0).1,0,none⟩)):=hA.at 50 (by kernel_rfl)
   have e52:u 52=(.int .i64 (zz:Int)):=hA.at 52 (by kernel_rfl)
   clear hA
   simp only [e55,e50,e52]at hK⊢
   go_simp
   refine Calls.mono (P.back _ w_ 17 0 4 zz (P.new h4 hc) (by unfold Lz14.lone;omega) (by show 0<1;omega) (by omega) (by show 16≤16;omega) (by show zz<16;omega) (by rw [List.length_append,List.length_append,treeB_len',rawB_len'];omega)) ?_
   rintro z w5 ⟨rfl,h5⟩
   clear hc
   refine hK.out _ _ ?_
   clear hK
   go_wp2
   first|go_end0|(refine bodyPost_ret (results_none rfl _ _ _) rfl ?_)
   refine⟨rfl,?_⟩
   rw [HDB.out,HE.out]
   rw [List.append_assoc,List.append_assoc]at h5
   exact h5
end Go.Proofs.YthideplpcnhncaaGreatDoor
namespace Go.Proofs.YthideplpcnhncaaGreatDoor
open Go.RowKit
open St12 Sy13 Lz14
set_option linter.unusedVariables false
set_option linter.unusedSimpArgs false
variable {T:TypeId} {rv:Value} {fb ft fk fd B a:Nat} {D:Dir} {V:Lst} {wa:Nat} {vw:Value} {ea:Nat} {X:Lz} {I:List Bt→World→Prop}
theorem shr_and8 (b i bt:Nat)(hb:b<256)(h:b/2^i% 2=bt):bits .and .u8 ((b:Int)/2^i) 1=(bt:Int):=by
 have e:((b:Int)/2^i)=((b/2^i:Nat):Int):=by simp
 have h1:b/2^i<256:=Nat.lt_of_le_of_lt (Nat.div_le_self _ _) hb
 rw [e,show(1:Int)=((1:Nat):Int)from rfl,u8_and_nat _ _ h1 (by omega),show(1:Nat)=2^1-1 from rfl,Nat.and_two_pow_sub_one_eq_mod]
 rw [←h]
set_option maxHeartbeats 4000000 in
set_option maxRecDepth 100000 in
theorem against_any (P:PenS T rv fb ft fk fd B a D V wa vw ea X I)(l:List Bt)(w0:World)(h:I l w0)(c:Nat)(hcc:c<cntS X.p 6)(b tb:Nat)(hb:b<256)(htl:tb<256)(hl:l.length+8≤87):Calls Tryz.prog 122 #[.iface T rv,.pointer (some ⟨(D 6 c).1,0,none⟩),.int .u8 (b:Int),.int .u8 (tb:Int)] w0 fun e w'=>e= .returned (.tuple #[])∧I (l++mw (nLit c) b tb 8 1 true) w':=by
 have nb:=P.nb
 have nt:=P.nt
 have nk:=P.nk
 have mb:=P.mb
 have mt:=P.mt
 have mkk:=P.mkk
 have md:=P.md
 have eb:=P.eb
 have et:=P.et
 have ek:=P.ek
 have ed:=P.ed
 have hbi:(b:Int)≤255:=by omega
 have hti:(tb:Int)≤255:=by omega
 go_enter Tryz.func122,Tryz.ntmps122
 go_wp2_with fail
 go_loopw [8,9,10,11,12,13] (fun v1 v2 v3 v4 v5 v6 wr=> ∃(k m q:Nat) (dn:List Bt) (al:Bool),k≤8∧v1= .int .i64 (m:Int)∧v2= .bool al∧v3= .int .i64 ((k:Int)-1)∧q+k=8∧m<2^(q+1)∧Hid (dn++mw (nLit c) b tb k m al=mw (nLit c) b tb 8 1 true∧dn.length=q∧I (l++dn) wr)) (fun _ _ v3 _ _ _ _=>(intOf v3+1).toNat)
 case atStart=>exact⟨8,1,0,[],true,by omega,rfl,rfl,rfl,by omega,by omega,rfl,rfl,by rw [List.append_nil];exact h⟩
 case round=>
  obtain⟨k,m,q,dn,al,hk,rfl,rfl,rfl,hq,hm,HI⟩:=hrel
  have hmi:(m:Int)≤512:=by
   have h1:(2:Nat)^(q+1)≤2^9:=Nat.pow_le_pow_right (by omega) (by omega)
   omega
  have HM:Hid (m<2^(q+1)):=hm
  clear hm
  cases k with
  |zero=>
   have d1:decide ((0:Int)≤((0:Nat):Int)-1)=false:=by simp
   have d1':decide ((0:Int)≤0-1)=false:=by simp
   have HE2:Hid (dn=mw (nLit c) b tb 8 1 true):=by have h9:=HI.out.1;simp only [mw,List.append_nil]at h9;exact h9
   go_wp2
   first|go_end0|(refine bodyPost_ret (results_none rfl _ _ _) rfl ?_)
   exact⟨rfl,by rw [←HE2.out];exact HI.out.2.2⟩
  |succ i=>
   have hei:((i+1:Nat):Int)-1=(i:Int):=by omega
   rw [hei]
   have d2:decide ((0:Int)≤(i:Int))=true:=by simp
   have hii:(i:Int)≤7:=by omega
   obtain⟨bt,hbt⟩: ∃bt,b/2^i% 2=bt:=⟨_,rfl⟩
   obtain⟨ut,hut⟩: ∃ut,tb/2^i% 2=ut:=⟨_,rfl⟩
   have hbn:bt≤1:=by rw [←hbt];exact Nat.le_of_lt_succ (Nat.mod_lt _ (by decide))
   have hun:ut≤1:=by rw [←hut];exact Nat.le_of_lt_succ (Nat.mod_lt _ (by decide))
   have hb1i:(bt:Int)≤1:=Int.ofNat_le.2 hbn
   have hu1i:(ut:Int)≤1:=Int.ofNat_le.2 hun
   have HB1:Hid (bits .and .u8 ((b:Int)/2^i) 1=(bt:Int)):=shr_and8 b i bt hb hbt
   have HU1:Hid (bits .and .u8 ((tb:Int)/2^i) 1=(ut:Int)):=shr_and8 tb i ut htl hut
   have HWB:Hid (IntKind.i64.wrap (bt:Int)=(bt:Int)):=by show _=_;rw [IntKind.wrap_i64];omega
   have HWU:Hid (IntKind.i64.wrap (ut:Int)=(ut:Int)):=by show _=_;rw [IntKind.wrap_i64];omega
   have HQ:Hid (q+(i+1)=8):=hq
   have HM8:Hid (m<256):=by
    have h1:(2:Nat)^(q+1)≤2^8:=Nat.pow_le_pow_right (by omega) (by omega)
    have:=HM.out
    show _<_
    omega
   have HMW:Hid (mw (nLit c) b tb (i+1) m al=⟨some (nLit c),if al=true then 256*(1+ut)+m else m,bt⟩::mw (nLit c) b tb i (2*m+bt) (al&&decide (bt=ut))):=by show _=_;rw [←hbt,←hut];rfl
   clear hei hbt hut hq
   cases al with
   |true=>
    obtain⟨at9,hat⟩: ∃at9:Nat,256*(1+ut)+m=at9:=⟨_,rfl⟩
    have HAB:Hid (at9<768):=by have:=HM8.out;show _<_;omega
    have HAT:Hid ((m:Int)+(1+(ut:Int))*256=(at9:Int)):=by show _=_;omega
    have HT:Hid (dn++mw (nLit c) b tb (i+1) m true=(dn++[⟨some (nLit c),at9,bt⟩])++mw (nLit c) b tb i (2*m+bt) (decide (bt=ut))):=by show _=_;rw [HMW.out,if_pos rfl,hat];simp
    clear hat HMW
    by_cases hbu:bt=ut
    ·subst hbu
     rw [show decide (bt=bt)=true from by simp]at HT
     have hq1:((bt:Int)==(bt:Int))=true:=by simp
     have HNE:Hid (True):=trivial
     go_upto_region 4 with fail
     have hb1:=HB1.out
     have hu1:=HU1.out
     go_quiet (fail)
     clear hb1 hu1
     go_upto_region 8 with fail
     rw [HAT.out]
     clear HAT
     go_wp2_with fail
     refine Calls.mono (P.bit _ _ 6 c at9 bt (P.new HI.out.2.2 (chg_drewN _ _)) (by omega) hcc (by show at9<768;have:=HAB.out;omega) hbn (by have:=HI.out.2.1;have:=HQ.out;rw [List.length_append];omega)) ?_
     rintro z w3 ⟨rfl,h3⟩
     have HI3:Hid (I (l++(dn++[⟨some (nLit c),at9,bt⟩])) w3):=by rw [List.append_assoc]at h3;exact h3
     clear h3
     go_wp2_with fail
     exact⟨⟨i,2*m+bt,q+1,dn++[⟨some (nLit c),at9,bt⟩],true,by have:=HQ.out;omega,by go_num,by first|rfl|simp [HNE.out],by go_num,by have:=HQ.out;omega,by have:=HM.out;rw [Nat.pow_succ];omega,by rw [←HT.out];exact HI.out.1,by rw [List.length_append,HI.out.2.1];rfl,HI3.out⟩,by simp [intOf]⟩
    ·rw [decide_eq_false hbu]at HT
     have HNE:Hid (¬bt=ut):=hbu
     have hq1:((bt:Int)==(ut:Int))=false:=by simp;omega
     clear hbu
     go_upto_region 4 with fail
     have hb1:=HB1.out
     have hu1:=HU1.out
     go_quiet (fail)
     clear hb1 hu1
     go_upto_region 8 with fail
     rw [HAT.out]
     clear HAT
     go_wp2_with fail
     refine Calls.mono (P.bit _ _ 6 c at9 bt (P.new HI.out.2.2 (chg_drewN _ _)) (by omega) hcc (by show at9<768;have:=HAB.out;omega) hbn (by have:=HI.out.2.1;have:=HQ.out;rw [List.length_append];omega)) ?_
     rintro z w3 ⟨rfl,h3⟩
     have HI3:Hid (I (l++(dn++[⟨some (nLit c),at9,bt⟩])) w3):=by rw [List.append_assoc]at h3;exact h3
     clear h3
     go_wp2_with fail
     exact⟨⟨i,2*m+bt,q+1,dn++[⟨some (nLit c),at9,bt⟩],false,by have:=HQ.out;omega,by go_num,by first|rfl|simp [HNE.out],by go_num,by have:=HQ.out;omega,by have:=HM.out;rw [Nat.pow_succ];omega,by rw [←HT.out];exact HI.out.1,by rw [List.length_append,HI.out.2.1];rfl,HI3.out⟩,by simp [intOf]⟩
   |false=>
    have HT:Hid (dn++mw (nLit c) b tb (i+1) m false=(dn++[⟨some (nLit c),m,bt⟩])++mw (nLit c) b tb i (2*m+bt) false):=by show _=_;rw [HMW.out];simp
    have HAB:Hid (m<768):=by have:=HM8.out;show _<_;omega
    have HNE:Hid (True):=trivial
    clear HMW
    go_upto_region 4 with fail
    have hb1:=HB1.out
    have hu1:=HU1.out
    go_quiet (fail)
    clear hb1 hu1
    go_upto_region 8 with fail
    go_wp2_with fail
    refine Calls.mono (P.bit _ _ 6 c m bt (P.new HI.out.2.2 (chg_drewN _ _)) (by omega) hcc (by show m<768;have:=HAB.out;omega) hbn (by have:=HI.out.2.1;have:=HQ.out;rw [List.length_append];omega)) ?_
    rintro z w3 ⟨rfl,h3⟩
    have HI3:Hid (I (l++(dn++[⟨some (nLit c),m,bt⟩])) w3):=by rw [List.append_assoc]at h3;exact h3
    clear h3
    go_wp2_with fail
    exact⟨⟨i,2*m+bt,q+1,dn++[⟨some (nLit c),m,bt⟩],false,by have:=HQ.out;omega,by go_num,by first|rfl|simp [HNE.out],by go_num,by have:=HQ.out;omega,by have:=HM.out;rw [Nat.pow_succ];omega,by rw [←HT.out];exact HI.out.1,by rw [List.length_append,HI.out.2.1];rfl,HI3.out⟩,by simp [intOf]⟩
end Go.Proofs.YthideplpcnhncaaGreatDoor
namespace Go.Proofs.YthideplpcnhncaaGreatDoor
open Go.RowKit
open St12 Sy13
set_option linter.unusedVariables false
set_option linter.unusedSimpArgs false
theorem Stt.I.zero:(St12.zero:Stt).I:=⟨⟨by decide,by decide⟩,⟨by decide,by decide⟩,⟨by decide,by decide⟩,⟨by decide,by decide⟩,⟨by decide,by decide⟩⟩
theorem right_I {s:Stt}(h:right s):s.I:=by
 obtain⟨⟨h1,h2⟩,⟨a1,a2⟩,⟨b1,b2⟩,⟨c1,c2⟩,⟨d1,d2⟩⟩:=h
 exact⟨⟨by omega,by omega⟩,⟨by omega,by omega⟩,⟨by omega,by omega⟩,⟨by omega,by omega⟩,⟨by omega,by omega⟩⟩
theorem app_dig {n:Nat}{bs:List Nat}{s:Stt}{y:Sym}(hy:y.I)(hb:Rc.Dig bs):Rc.Dig (app n bs s y).1:=by
 unfold app
 split
 ·intro x hx;simp at hx
 ·split
  ·intro x hx
   simp only [List.mem_singleton]at hx
   have:=hy.y
   omega
  ·split
   ·next h=>
    have h2:=Inw.nat h
    exact copyL_dig h2.1 _ h2.2.1 hb
   ·intro x hx;simp at hx
end Go.Proofs.YthideplpcnhncaaGreatDoor
namespace Go.Proofs.YthideplpcnhncaaGreatDoor
open Go.RowKit
open St12 Sy13 Lz14
set_option linter.unusedVariables false
set_option linter.unusedSimpArgs false
variable {T:TypeId} {rv:Value} {fb ft fk fd B a:Nat} {D:Dir} {V:Lst} {wa:Nat} {vw:Value} {ea:Nat} {X:Lz} {I:List Bt→World→Prop}
theorem litC_lt {X:Lz}(h:Lz14.I X):litC X<2^(X.p.lc+X.p.lp).toNat:=by
 have hp:=pow_pb h.al
 have hb:backB X.bs 1<256:=by
  by_cases e:X.bs=[]
  ·rw [e];decide
  ·exact h.dig _ (backB_mem (by omega) (by have:=List.length_pos_iff.2 e;omega))
 have h1:X.bs.length% 2^X.p.lp.toNat<2^X.p.lp.toNat:=Nat.mod_lt _ (Nat.two_pow_pos _)
 have h2:backB X.bs 1/2^(8-X.p.lc.toNat)<2^X.p.lc.toNat:=by
  rw [Nat.div_lt_iff_lt_mul (Nat.two_pow_pos _),←Nat.pow_add,show X.p.lc.toNat+(8-X.p.lc.toNat)=8 by omega]
  exact hb
 unfold litC
 rw [show(X.p.lc+X.p.lp).toNat=X.p.lp.toNat+X.p.lc.toNat by omega,Nat.pow_add]
 have h3:(X.bs.length% 2^X.p.lp.toNat+1)*2^X.p.lc.toNat≤2^X.p.lp.toNat*2^X.p.lc.toNat:=Nat.mul_le_mul_right _ h1
 rw [Nat.add_mul]at h3
 omega
theorem last_one {w:World}{n:Nat}{bs:List Nat}{B wa:Nat}{vw:Value}(h:Win w B wa vw n bs)(hl:bs.length≤1152921504606846976):Calls Tryz.prog 71 #[.pointer (some ⟨wa,0,none⟩),.int .i64 1] w fun e w'=> ∃er:Int,e= .returned (.tuple #[.int .u8 ((backB bs 1:Nat):Int),.int .i64 er])∧Chg (fun _=>False) w w':=by
 have hn:=winSpec.nn h
 refine(winSpec.last B wa vw n bs 1 w h hl ⟨by omega,by omega⟩).mono ?_
 rintro e w' ⟨hh,c⟩
 rcases hh with⟨k,rfl⟩|⟨_,rfl⟩
 ·refine⟨7,?_,c⟩
  have e0:bs=[]:=by
   by_cases e:bs=[]
   ·exact e
   ·exfalso
    apply k
    have:=List.length_pos_iff.2 e
    exact⟨by omega,by unfold fullN;omega⟩
  rw [e0]
  rfl
 ·exact⟨0,rfl,c⟩
set_option maxHeartbeats 4000000 in
set_option maxRecDepth 100000 in
theorem litpen_any (P:PenS T rv fb ft fk fd B a D V wa vw ea X I)(S:StSpec Tab)(hI:Lz14.I X)(hbl:X.bs.length≤1152921504606846976)(l:List Bt)(w:World)(h:I l w)(b:Nat)(hb:b<256)(hl:l.length+8≤87):Calls Tryz.prog 75 #[.pointer (some ⟨a,0,none⟩),.iface T rv,.int .u8 (b:Int)] w fun e w'=>e= .returned (.tuple #[])∧I (l++litB X b) w':=by
 have nb:=P.nb
 have nt:=P.nt
 have nk:=P.nk
 have mb:=P.mb
 have mt:=P.mt
 have mkk:=P.mkk
 have md:=P.md
 have eb:=P.eb
 have et:=P.et
 have ek:=P.ek
 have ed:=P.ed
 obtain⟨ve9,c9,hle⟩:=P.le h
 obtain⟨kc,hkc⟩: ∃kc,litC X=kc:=⟨_,rfl⟩
 obtain⟨bb,hbb⟩: ∃bb,backB X.bs 1=bb:=⟨_,rfl⟩
 have hklt:kc<cntS X.p 6:=by rw [←hkc];exact litC_lt hI
 have hbb2:bb<256:=by
  rw [←hbb]
  by_cases e:X.bs=[]
  ·rw [e];decide
  ·exact hI.dig _ (backB_mem (by omega) (by have:=List.length_pos_iff.2 e;omega))
 have x21:w.cell? ⟨a,21,none⟩=some (.pointer (some ⟨wa,0,none⟩)):=hle.cell 21 _ rfl
 have HW:Hid (Win w B wa vw X.n X.bs):=hle.win
 have HL1:Hid (∀u,Win u B wa vw X.n X.bs→Calls Tryz.prog 71 #[.pointer (some ⟨wa,0,none⟩),.int .i64 1] u fun e w'=> ∃er:Int,e= .returned (.tuple #[.int .u8 (bb:Int),.int .i64 er])∧Chg (fun _=>False) u w'):=fun u hu=>by
  have h9:=last_one hu hbl
  rw [hbb]at h9
  exact h9
 have HKC:Hid (X.bs.length% 2^X.p.lp.toNat*2^X.p.lc.toNat+bb/2^(8-X.p.lc.toNat)=kc):=by
  show _=_
  rw [←hkc,←hbb]
  rfl
 have HIX:Hid (Lz14.I X):=hI
 have HBL:Hid (X.bs.length≤1152921504606846976):=hbl
 have HKE:Hid (litC X=kc):=hkc
 clear hle hkc hbb hI
 go_enter Tryz.func75,Tryz.ntmps75
 go_wp2_with fail
 refine Calls.mono (HL1.out w HW.out) ?_
 rintro z w1 ⟨er,rfl,c1⟩
 have h1:=P.new h c1
 have HW1:Hid (Win w1 B wa vw X.n X.bs):=winSpec.new HW.out c1
 clear c1 x21 h HW HL1
 go_upto_region 1 with fail
 obtain⟨ve9,c9,hle⟩:=P.le h1
 obtain⟨gl,kl,el,cl⟩:=hle.ptr 6 (by omega) rfl kc hklt
 have xl:w1.cell? ⟨a,9,none⟩=some (.slice (some ⟨gl,0,none⟩) (cntS X.p 6) kl):=(hle.cell 9 _ rfl).trans (congrArg some el)
 clear el
 have x21:w1.cell? ⟨a,21,none⟩=some (.pointer (some ⟨wa,0,none⟩)):=hle.cell 21 _ rfl
 have q0:w1.cell? ⟨a,0,none⟩=some (.int .i64 X.p.lc):=hle.cell 0 _ rfl
 have q1:w1.cell? ⟨a,1,none⟩=some (.int .i64 X.p.lp):=hle.cell 1 _ rfl
 have q2:w1.cell? ⟨a,2,none⟩=some (.int .i64 X.p.pb):=hle.cell 2 _ rfl
 have HLR:Hid (∀u,Chg (fun _=>False) w1 u→Calls Tryz.prog 120 #[.pointer (some ⟨a,0,none⟩),.int .i64 (X.bs.length:Int),.int .u8 (bb:Int)] u fun e w'=>e= .returned (.pointer (some ⟨(D 6 kc).1,0,none⟩))∧Chg (fun _=>False) u w'):=fun u hc=>litrow_any a gl kl X.p HIX.out.al X.bs.length bb u HBL.out hbb2 (cntS X.p 6) _ (by rw [HKC.out];exact hklt) (cnt_le HIX.out.al 6) (cell_chg q0 hc) (cell_chg q1 hc) (cell_chg q2 hc) (cell_chg xl hc) (by rw [HKC.out];exact cell_chg cl hc)
 clear hle xl cl q0 q1 q2
 refine wp_region_last (mk:=fun u=> #[_,_,_,_,_,_,_,_,_,_,_,_,_,_,_,_,_,_,_,u 19,u 20,u 21,u 22,u 23,u 24,u 25,u 26,u 27,u 28,_,_,_,_,_,_,_,_,_,_,_,_,_,_,_,_,_,_,_,_,_,_,_,_,_,_,_,_,_]) (F:=fun slot vv ww=>(look [(19,.val (.pointer (some ⟨a,0,none⟩))),(20,.val (.pointer (some ⟨a,0,none⟩))),(21,.val (.pointer (some ⟨a,0,none⟩))),(22,.val (.pointer (some ⟨a,0,none⟩))),(23,.val (.pointer (some ⟨a,0,none⟩))),(24,.val (.pointer (some ⟨a,21,none⟩))),(25,.val (.pointer (some ⟨wa,0,none⟩))),(26,.val (.int .i64 (X.bs.length:Int))),(27,.val (.int .u8 (bb:Int))),(28,.val (.pointer (some ⟨(D 6 kc).1,0,none⟩)))] slot).holds vv ww) (fun _=>undef) rfl (by kernel_rfl) 10 _ rfl rfl (by kernel_rfl) ?_ (fun _ v w w' hc h=>Fact.stays _ v w w' hc h) ?_ ?_
 ·repeat (refine⟨⟨_,rfl,fun _ _=>rfl⟩,?_⟩)
  exact trivial
 ·refine⟨?_,?_,?_,?_,?_,?_,?_,?_,?_,?_,trivial⟩
  ·intro u w_ hc hd K hK
   clear hd
   go_simp
   exact hK.out _ _ (Chg.refl _ _) rfl
  ·intro u w_ hc hd K hK
   have h19:(Fact.val (.pointer (some ⟨a,0,none⟩))).holds (u 19) w_:=hd.get 0 (by kernel_rfl)
   simp only [Fact.holds]at h19
   clear hd
   simp only [h19]at hK
   go_simp
   exact hK.out _ _ (Chg.refl _ _) rfl
  ·intro u w_ hc hd K hK
   have h20:(Fact.val (.pointer (some ⟨a,0,none⟩))).holds (u 20) w_:=hd.get 1 (by kernel_rfl)
   simp only [Fact.holds]at h20
   clear hd
   simp only [h20]at hK
   go_simp
   exact hK.out _ _ (Chg.refl _ _) rfl
  ·intro u w_ hc hd K hK
   clear hd
   go_simp
   exact hK.out _ _ (Chg.refl _ _) rfl
  ·intro u w_ hc hd K hK
   have h22:(Fact.val (.pointer (some ⟨a,0,none⟩))).holds (u 22) w_:=hd.get 3 (by kernel_rfl)
   simp only [Fact.holds]at h22
   clear hd
   simp only [h22]at hK
   go_simp
   exact hK.out _ _ (Chg.refl _ _) rfl
  ·intro u w_ hc hd K hK
   have h23:(Fact.val (.pointer (some ⟨a,0,none⟩))).holds (u 23) w_:=hd.get 4 (by kernel_rfl)
   simp only [Fact.holds]at h23
   clear hd
   simp only [h23]at hK
   go_simp
   exact hK.out _ _ (Chg.refl _ _) rfl
  ·intro u w_ hc hd K hK
   have h24:(Fact.val (.pointer (some ⟨a,21,none⟩))).holds (u 24) w_:=hd.get 5 (by kernel_rfl)
   simp only [Fact.holds]at h24
   clear hd
   simp only [h24]at hK
   have hcell:=cell_chg x21 hc
   go_simp
   exact hK.out _ _ (Chg.refl _ _) rfl
  ·intro u w_ hc hd K hK
   have h25:(Fact.val (.pointer (some ⟨wa,0,none⟩))).holds (u 25) w_:=hd.get 6 (by kernel_rfl)
   simp only [Fact.holds]at h25
   clear hd
   simp only [h25]at hK
   go_simp
   refine Calls.mono (posS winSpec (winSpec.new HW1.out hc)) ?_
   rintro z w2 ⟨rfl,c2⟩
   exact hK.out _ w2 c2 rfl
  ·intro u w_ hc hd K hK
   clear hd
   go_simp
   exact hK.out _ _ (Chg.refl _ _) rfl
  ·intro u w_ hc hd K hK
   have h21:(Fact.val (.pointer (some ⟨a,0,none⟩))).holds (u 21) w_:=hd.get 2 (by kernel_rfl)
   simp only [Fact.holds]at h21
   have h26:(Fact.val (.int .i64 (X.bs.length:Int))).holds (u 26) w_:=hd.get 7 (by kernel_rfl)
   simp only [Fact.holds]at h26
   have h27:(Fact.val (.int .u8 (bb:Int))).holds (u 27) w_:=hd.get 8 (by kernel_rfl)
   simp only [Fact.holds]at h27
   clear hd
   simp only [h21,h26,h27]at hK
   go_simp
   refine Calls.mono (HLR.out w_ hc) ?_
   rintro z w2 ⟨rfl,c2⟩
   exact hK.out _ w2 c2 rfl
 ·intro u w_ hc hA K hK
  have e28:u 28=(.pointer (some ⟨(D 6 kc).1,0,none⟩)):=hA.at 28 (by kernel_rfl)
  clear hA
  simp only [e28]at hK⊢
  go_simp
  refine hK.out _ _ ?_
  clear hK
  have h2:=P.new h1 hc
  clear hc x21 HLR h1 HW1
  obtain⟨ve9,c9,hle⟩:=P.le h2
  obtain⟨N,hN⟩: ∃N:Nat,X.s.n=(N:Int):=⟨X.s.n.toNat,by have:=HIX.out.rt.1.1;omega⟩
  have hN11:N≤11:=by have:=HIX.out.rt.1.2;omega
  have y22:w_.cell? ⟨a,22,none⟩=some (.int .i64 X.s.n):=hle.cell 22 _ rfl
  have y23:w_.cell? ⟨a,23,none⟩=some (.int .i64 X.s.a):=hle.cell 23 _ rfl
  have y24:w_.cell? ⟨a,24,none⟩=some (.int .i64 X.s.b):=hle.cell 24 _ rfl
  have y25:w_.cell? ⟨a,25,none⟩=some (.int .i64 X.s.c):=hle.cell 25 _ rfl
  have y26:w_.cell? ⟨a,26,none⟩=some (.int .i64 X.s.d):=hle.cell 26 _ rfl
  have HLT:Hid (∀u,Tab u→Calls Tryz.prog 121 #[.agg #[.int .i64 X.s.n,.int .i64 X.s.a,.int .i64 X.s.b,.int .i64 X.s.c,.int .i64 X.s.d]] u fun e w'=>e= .returned (.bool (St12.lit X.s.n))∧Chg (fun _=>False) u w'):=fun u hu=>S.lit X.s u hu (right_I HIX.out.rt)
  by_cases h7:X.s.n<7
  ·have HB:Hid (St12.lit X.s.n=true):=by show _=_;unfold St12.lit;have:=HIX.out.rt.1.1;simp;omega
   have HE:Hid (litB X b=treeB (nLit kc) 8 b):=by show _=_;unfold litB;rw [if_pos h7,HKE.out]
   rw [HB.out]at HLT
   clear hle hN h7
   go_wp2_with fail
   refine Calls.mono (HLT.out w_ (P.tab h2)) ?_
   rintro z w3 ⟨rfl,c3⟩
   have h3:=P.new h2 c3
   clear c3 h2 y22 y23 y24 y25 y26 HLT
   go_wp2_with fail
   refine Calls.mono (P.tree l w3 6 kc 8 b h3 (by unfold Lz14.lone;omega) hklt (by omega) (by show 256≤768;omega) (by show b<256;omega) (by omega)) ?_
   rintro z w4 ⟨rfl,h4⟩
   go_wp2
   first|go_end0|(refine bodyPost_ret (results_none rfl _ _ _) rfl ?_)
   exact⟨rfl,by rw [HE.out];exact h4⟩
  ·have HB:Hid (St12.lit X.s.n=false):=by show _=_;unfold St12.lit;simp;omega
   obtain⟨tb,htb⟩: ∃tb,backB X.bs X.s.a.toNat=tb:=⟨_,rfl⟩
   have hin:=HIX.out.far (by omega)
   have htl:tb<256:=by
    rw [←htb]
    obtain⟨k1,k2⟩:=hin
    have:fullN X.n X.bs≤X.bs.length:=by unfold fullN;omega
    exact HIX.out.dig _ (backB_mem (by omega) (by omega))
   have HE:Hid (litB X b=mw (nLit kc) b tb 8 1 true):=by show _=_;unfold litB;rw [if_neg h7,HKE.out,htb]
   have y21:w_.cell? ⟨a,21,none⟩=some (.pointer (some ⟨wa,0,none⟩)):=hle.cell 21 _ rfl
   have HW2:Hid (Win w_ B wa vw X.n X.bs):=hle.win
   have HIA:Hid (I64 X.s.a):=(right_I HIX.out.rt).a
   rw [HB.out]at HLT
   have HIN:Hid (inwD X.n X.bs X.s.a):=hin
   have HTB:Hid (backB X.bs X.s.a.toNat=tb):=htb
   clear hle hN h7 htb hin
   go_wp2_with fail
   refine Calls.mono (HLT.out w_ (P.tab h2)) ?_
   rintro z w4 ⟨rfl,c3⟩
   have h3:=P.new h2 c3
   have y21:=cell_chg y21 c3
   have y23:=cell_chg y23 c3
   have HW4:Hid (Win w4 B wa vw X.n X.bs):=winSpec.new HW2.out c3
   have HLA:Hid (∀u,Chg (fun _=>False) w4 u→Calls Tryz.prog 71 #[.pointer (some ⟨wa,0,none⟩),.int .i64 X.s.a] u fun e w'=>e= .returned (.tuple #[.int .u8 (tb:Int),.int .i64 0])∧Chg (fun _=>False) u w'):=fun u hc=>by
    refine(winSpec.last B wa vw X.n X.bs X.s.a u (winSpec.new HW4.out hc) HBL.out HIA.out).mono ?_
    rintro e w' ⟨hh,cc⟩
    rcases hh with⟨k,_⟩|⟨_,k⟩
    ·exact absurd HIN.out k
    ·rw [HTB.out]at k
     exact⟨k,cc⟩
   clear c3 h2 y22 y24 y25 y26 HLT HW2
   go_upto_region 4 with fail
   refine wp_region_setM (mk:=fun u=> #[_,_,_,_,_,_,_,_,_,u 9,_,_,_,_,_,_,_,_,_,_,_,_,_,_,_,_,_,_,_,_,_,_,_,_,_,_,_,_,_,u 39,u 40,u 41,u 42,u 43,u 44,u 45,u 46,u 47,u 48,u 49,u 50,u 51,u 52,_,_,_,_,_]) (G:=lookG [(40,.pointer (some ⟨a,0,none⟩)),(41,.pointer (some ⟨a,0,none⟩)),(42,.pointer (some ⟨a,21,none⟩)),(43,.pointer (some ⟨wa,0,none⟩)),(44,.pointer (some ⟨a,0,none⟩)),(45,.pointer (some ⟨a,0,none⟩)),(46,.pointer (some ⟨a,22,none⟩)),(47,.pointer (some ⟨a,23,none⟩)),(48,.pointer (some ⟨a,23,none⟩)),(49,.int .i64 X.s.a)]) (J:=fun L_ u ww=>Chg (fun _=>False) w4 ww∧((L_ 10=false∧L_ 11=false∧L_ 12=false∧L_ 13=false∧L_ 14=false∧Chg (fun _=>False) w4 ww)∨(L_ 10=true∧ ∃gz,u 50= .tuple #[.int .u8 (tb:Int),.int .i64 0]∧(L_ 11=true→u 39= .tuple #[.int .u8 (tb:Int),.int .i64 0])∧(L_ 12=true→u 51= .int .u8 (tb:Int))∧(L_ 13=true→u 52= .int .i64 0)∧(L_ 14=true→u 9= .int .u8 (tb:Int))∧(gz=(0:Nat))))) [10,11,12,13,14] ([]) (fun _=>undef) rfl (by kernel_rfl) 15 _ rfl rfl (by kernel_rfl) (by kernel_rfl) ?_ ?_ ?_ ?_ ?_
   ·repeat (refine⟨fun _ _=>rfl,?_⟩)
    exact trivial
   ·intro L_ L2 u u2 ww h hj
    have l10_:L_ 10=L2 10:=(h 10 (by decide)).1
    have e10_:u 50=u2 50:=(h 10 (by decide)).2
    have l11_:L_ 11=L2 11:=(h 11 (by decide)).1
    have e11_:u 39=u2 39:=(h 11 (by decide)).2
    have l12_:L_ 12=L2 12:=(h 12 (by decide)).1
    have e12_:u 51=u2 51:=(h 12 (by decide)).2
    have l13_:L_ 13=L2 13:=(h 13 (by decide)).1
    have e13_:u 52=u2 52:=(h 13 (by decide)).2
    have l14_:L_ 14=L2 14:=(h 14 (by decide)).1
    have e14_:u 9=u2 9:=(h 14 (by decide)).2
    show _∧_
    rw [←l10_,←e10_,←l11_,←e11_,←l12_,←e12_,←l13_,←e13_,←l14_,←e14_]
    exact hj
   ·exact⟨(Chg.refl _ w4).drew,.inl ⟨rfl,rfl,rfl,rfl,rfl,(Chg.refl _ w4).drew⟩⟩
   ·refine⟨?_,?_,?_,?_,?_,?_,?_,?_,?_,?_,?_,?_,?_,?_,?_,trivial⟩
    ·show StepRS _ _ _ _ _ _ _ _
     unfold StepRS
     intro L_ u w_ hj hd K hK
     clear hd
     have hc:=hj.1
     clear hj hc
     go_simp
     exact hK.out _ rfl
    ·show StepRS _ _ _ _ _ _ _ _
     unfold StepRS
     intro L_ u w_ hj hd K hK
     have h40:u 40= .pointer (some ⟨a,0,none⟩):=hd.get 0 (by kernel_rfl)
     clear hd
     simp only [h40]at hK
     have hc:=hj.1
     clear hj hc
     go_simp
     exact hK.out _ rfl
    ·show StepRS _ _ _ _ _ _ _ _
     unfold StepRS
     intro L_ u w_ hj hd K hK
     have h41:u 41= .pointer (some ⟨a,0,none⟩):=hd.get 1 (by kernel_rfl)
     clear hd
     simp only [h41]at hK
     have hc:=hj.1
     clear hj hc
     go_simp
     exact hK.out _ rfl
    ·show StepRS _ _ _ _ _ _ _ _
     unfold StepRS
     intro L_ u w_ hj hd K hK
     have h42:u 42= .pointer (some ⟨a,21,none⟩):=hd.get 2 (by kernel_rfl)
     clear hd
     simp only [h42]at hK
     have hc:=hj.1
     have hcell:=cell_chg y21 hc
     clear hj hc
     go_simp
     exact hK.out _ rfl
    ·show StepRS _ _ _ _ _ _ _ _
     unfold StepRS
     intro L_ u w_ hj hd K hK
     clear hd
     have hc:=hj.1
     clear hj hc
     go_simp
     exact hK.out _ rfl
    ·show StepRS _ _ _ _ _ _ _ _
     unfold StepRS
     intro L_ u w_ hj hd K hK
     have h44:u 44= .pointer (some ⟨a,0,none⟩):=hd.get 4 (by kernel_rfl)
     clear hd
     simp only [h44]at hK
     have hc:=hj.1
     clear hj hc
     go_simp
     exact hK.out _ rfl
    ·show StepRS _ _ _ _ _ _ _ _
     unfold StepRS
     intro L_ u w_ hj hd K hK
     have h45:u 45= .pointer (some ⟨a,0,none⟩):=hd.get 5 (by kernel_rfl)
     clear hd
     simp only [h45]at hK
     have hc:=hj.1
     clear hj hc
     go_simp
     exact hK.out _ rfl
    ·show StepRS _ _ _ _ _ _ _ _
     unfold StepRS
     intro L_ u w_ hj hd K hK
     have h46:u 46= .pointer (some ⟨a,22,none⟩):=hd.get 6 (by kernel_rfl)
     clear hd
     simp only [h46]at hK
     have hc:=hj.1
     clear hj hc
     go_simp
     exact hK.out _ rfl
    ·show StepRS _ _ _ _ _ _ _ _
     unfold StepRS
     intro L_ u w_ hj hd K hK
     have h47:u 47= .pointer (some ⟨a,23,none⟩):=hd.get 7 (by kernel_rfl)
     clear hd
     simp only [h47]at hK
     have hc:=hj.1
     clear hj hc
     go_simp
     exact hK.out _ rfl
    ·show StepRS _ _ _ _ _ _ _ _
     unfold StepRS
     intro L_ u w_ hj hd K hK
     have h48:u 48= .pointer (some ⟨a,23,none⟩):=hd.get 8 (by kernel_rfl)
     clear hd
     simp only [h48]at hK
     have hc:=hj.1
     have hcell:=cell_chg y23 hc
     clear hj hc
     go_simp
     exact hK.out _ rfl
    ·show StepWS _ _ _ _ _ _ _ _ _
     unfold StepWS
     intro L_ u w_ hj hli hwt hd K hK
     have h43:u 43= .pointer (some ⟨wa,0,none⟩):=hd.get 3 (by kernel_rfl)
     have h49:u 49= .int .i64 X.s.a:=hd.get 9 (by kernel_rfl)
     clear hd
     simp only [h43,h49]at hK
     obtain⟨hc,hm⟩:=hj
     rcases hm with⟨n50,n39,n51,n52,n9,hF⟩|⟨l50,_⟩
     ·have m39: ¬L_ 11=true:=by rw [n39];decide
      have m51: ¬L_ 12=true:=by rw [n51];decide
      have m52: ¬L_ 13=true:=by rw [n52];decide
      have m9: ¬L_ 14=true:=by rw [n9];decide
      go_simp
      refine Calls.mono (HLA.out w_ hF) ?_
      rintro z w2 ⟨rfl,c2⟩
      skip
      exact hK.out _ w2 ⟨hc.trans c2 (fun z f=> .inl f),.inr ⟨rfl,0,rfl,(fun e=>absurd e m39),(fun e=>absurd e m51),(fun e=>absurd e m52),(fun e=>absurd e m9),rfl⟩⟩ trivial
     ·rw [l50]at hli;cases hli
    ·show StepWS _ _ _ _ _ _ _ _ _
     unfold StepWS
     intro L_ u w_ hj hli hwt hd K hK
     clear hd
     obtain⟨hc,hm⟩:=hj
     have lopr:L_ 10=true:=hwt ⟨10,.data⟩ (by simp) rfl
     rcases hm with⟨n50,n39,n51,n52,n9,hF⟩|⟨l50,gz,e50,q39,q51,q52,q9,hp⟩
     ·rw [n50]at lopr;cases lopr
     ·have eo:=e50
      have HPH:Hid _:=hp
      clear hp
      simp only [eo]at hK⊢
      go_simp
      exact hK.out _ _ ⟨hc,.inr ⟨l50,gz,e50,(fun _=>rfl),q51,q52,q9,HPH.out⟩⟩ trivial
    ·show StepWS _ _ _ _ _ _ _ _ _
     unfold StepWS
     intro L_ u w_ hj hli hwt hd K hK
     clear hd
     obtain⟨hc,hm⟩:=hj
     have lopr:L_ 11=true:=hwt ⟨11,.data⟩ (by simp) rfl
     rcases hm with⟨n50,n39,n51,n52,n9,hF⟩|⟨l50,gz,e50,q39,q51,q52,q9,hp⟩
     ·rw [n39]at lopr;cases lopr
     ·have eo:=q39 lopr
      have HPH:Hid _:=hp
      clear hp
      simp only [eo,e50]at hK⊢
      go_simp
      exact hK.out _ _ ⟨hc,.inr ⟨l50,gz,e50,q39,(fun _=>rfl),q52,q9,HPH.out⟩⟩ trivial
    ·show StepWS _ _ _ _ _ _ _ _ _
     unfold StepWS
     intro L_ u w_ hj hli hwt hd K hK
     clear hd
     obtain⟨hc,hm⟩:=hj
     have lopr:L_ 11=true:=hwt ⟨11,.data⟩ (by simp) rfl
     rcases hm with⟨n50,n39,n51,n52,n9,hF⟩|⟨l50,gz,e50,q39,q51,q52,q9,hp⟩
     ·rw [n39]at lopr;cases lopr
     ·have eo:=q39 lopr
      have HPH:Hid _:=hp
      clear hp
      simp only [eo,e50]at hK⊢
      go_simp
      exact hK.out _ _ ⟨hc,.inr ⟨l50,gz,e50,q39,q51,(fun _=>rfl),q9,HPH.out⟩⟩ trivial
    ·show StepWS _ _ _ _ _ _ _ _ _
     unfold StepWS
     intro L_ u w_ hj hli hwt hd K hK
     clear hd
     obtain⟨hc,hm⟩:=hj
     have lopr:L_ 12=true:=hwt ⟨12,.data⟩ (by simp) rfl
     rcases hm with⟨n50,n39,n51,n52,n9,hF⟩|⟨l50,gz,e50,q39,q51,q52,q9,hp⟩
     ·rw [n51]at lopr;cases lopr
     ·have eo:=q51 lopr
      have HPH:Hid _:=hp
      clear hp
      simp only [eo,e50]at hK⊢
      go_simp
      exact hK.out _ _ ⟨hc,.inr ⟨l50,gz,e50,q39,q51,q52,(fun _=>rfl),HPH.out⟩⟩ trivial
   ·intro u w5 hj hA K hK
    obtain⟨hc,hm⟩:=hj
    rcases hm with⟨nn,_⟩|⟨_,gz,eM,q39,q51,q52,q9,_⟩
    ·cases nn
    have e9:u 9= .int .u8 (tb:Int):=q9 rfl
    have e52:u 52= .int .i64 0:=q52 rfl
    have h5:=P.new h3 hc
    clear eM q39 q51 q52 q9 hA hc h3 HLA y21 y23 HW4
    simp only [e9,e52]
    go_simp
    refine hK.out _ _ ?_
    clear hK e9 e52
    go_wp2_with fail
    refine Calls.mono (against_any P l w5 h5 kc hklt b tb hb htl hl) ?_
    rintro z w6 ⟨rfl,h6⟩
    go_wp2
    first|go_end0|(refine bodyPost_ret (results_none rfl _ _ _) rfl ?_)
    exact⟨rfl,by rw [HE.out];exact h6⟩
end Go.Proofs.YthideplpcnhncaaGreatDoor
