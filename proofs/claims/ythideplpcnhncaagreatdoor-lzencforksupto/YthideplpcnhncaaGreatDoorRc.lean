/- Of no statement by itself: Rc (without blanks and remarks). -/

namespace Go.Proofs.YthideplpcnhncaaGreatDoor.Rc
structure E where
 L:Nat
 R:Nat
 k:Nat
structure Ok (e:E):Prop where
 lo:16777216≤e.R
 hi:e.R≤4294967295
 sum:e.L+e.R≤4294967296*256^e.k
def start:E:=⟨0,4294967295,0⟩
theorem start_ok:Ok start:=⟨by decide,by decide,by decide⟩
def widen (e:E):E:=if e.R<16777216 then⟨256*e.L,256*e.R,e.k+1⟩else e
def part (e:E)(b:Nat)(one:Bool):E:=if one then⟨e.L+b,e.R-b,e.k⟩else⟨e.L,b,e.k⟩
def cut (e:E)(b:Nat)(one:Bool):E:=widen (part e b one)
def hpart (e:E)(one:Bool):E:=if one then⟨e.L+e.R/2,e.R/2,e.k⟩else⟨e.L,e.R/2,e.k⟩
def half (e:E)(one:Bool):E:=widen (hpart e one)
structure Within (e f:E):Prop where
 k:e.k≤f.k
 low:e.L*256^(f.k-e.k)≤f.L
 high:f.L+f.R≤(e.L+e.R)*256^(f.k-e.k)
theorem Within.refl (e:E):Within e e:=⟨Nat.le_refl _,by simp,by simp⟩
theorem Within.trans {e f g:E}(h:Within e f)(i:Within f g):Within e g:=by
 have hk:=h.k
 have ik:=i.k
 have hp:256^(g.k-e.k)=256^(f.k-e.k)*256^(g.k-f.k):=by rw [←Nat.pow_add];congr 1;omega
 refine⟨by omega,?_,?_⟩
 ·rw [hp,←Nat.mul_assoc]
  exact Nat.le_trans (Nat.mul_le_mul_right _ h.low) i.low
 ·rw [hp,←Nat.mul_assoc]
  exact Nat.le_trans i.high (Nat.mul_le_mul_right _ h.high)
theorem widen_ok {e:E}(lo:65536≤e.R)(hi:e.R≤4294967295)(sum:e.L+e.R≤4294967296*256^e.k):Ok (widen e):=by
 unfold widen
 split
 ·refine⟨?_,?_,?_⟩
  ·show 16777216≤256*e.R
   omega
  ·show 256*e.R≤4294967295
   omega
  ·show 256*e.L+256*e.R≤4294967296*256^(e.k+1)
   rw [Nat.pow_succ,←Nat.mul_assoc]
   omega
 ·exact⟨by omega,hi,sum⟩
theorem cut_ok {e:E}(h:Ok e){b:Nat}(h1:65536≤b)(h2:b+65536≤e.R)(one:Bool):Ok (cut e b one):=by
 have:=h.hi
 have hs:=h.sum
 cases one
 ·exact widen_ok (e:=⟨e.L,b,e.k⟩) h1 (by show b≤_;omega) (by show e.L+b≤4294967296*256^e.k;omega)
 ·exact widen_ok (e:=⟨e.L+b,e.R-b,e.k⟩) (by show _≤e.R-b;omega) (by show e.R-b≤_;omega) (by show e.L+b+(e.R-b)≤4294967296*256^e.k;omega)
theorem half_ok {e:E}(h:Ok e)(one:Bool):Ok (half e one):=by
 have:=h.lo
 have:=h.hi
 have hs:=h.sum
 cases one
 ·exact widen_ok (e:=⟨e.L,e.R/2,e.k⟩) (by show _≤e.R/2;omega) (by show e.R/2≤_;omega) (by show e.L+e.R/2≤4294967296*256^e.k;omega)
 ·exact widen_ok (e:=⟨e.L+e.R/2,e.R/2,e.k⟩) (by show _≤e.R/2;omega) (by show e.R/2≤_;omega) (by show e.L+e.R/2+e.R/2≤4294967296*256^e.k;omega)
theorem bound_in {R p:Nat}(hR:16777216≤R)(h1:31≤p)(h2:p≤2017):65536≤R/2048*p∧R/2048*p+65536≤R:=by
 have a1:R/2048*31≤R/2048*p:=Nat.mul_le_mul_left _ h1
 have a2:R/2048*p≤R/2048*2017:=Nat.mul_le_mul_left _ h2
 omega
theorem order {L m:Nat}{z f o g:E}(hz:Within z f)(ho:Within o g)(hzk:z.k=m)(hok:o.k=m)(hzL:z.L+z.R=L)(hoL:L≤o.L)(hf:0<f.R):f.L*256^g.k<g.L*256^f.k:=by
 have h1:f.L<L*256^(f.k-m):=by
  have:=hz.high
  rw [hzL,hzk]at this
  omega
 have h2:L*256^(g.k-m)≤g.L:=by
  have:=ho.low
  rw [hok]at this
  exact Nat.le_trans (Nat.mul_le_mul_right _ hoL) this
 have k1:=hz.k
 have k2:=ho.k
 rw [hzk]at k1
 rw [hok]at k2
 have e1:L*256^(f.k-m)*256^g.k=L*256^(g.k-m)*256^f.k:=by
  rw [Nat.mul_assoc,Nat.mul_assoc,←Nat.pow_add,←Nat.pow_add,show f.k-m+g.k=g.k-m+f.k by omega]
 calc f.L*256^g.k<L*256^(f.k-m)*256^g.k:=Nat.mul_lt_mul_of_pos_right h1 (Nat.pow_pos (by omega))
  _=L*256^(g.k-m)*256^f.k:=e1
  _≤g.L*256^f.k:=Nat.mul_le_mul_right _ h2
theorem after {e f:E}(h:Within e f):e.L*256^f.k≤f.L*256^e.k:=by
 have h1:=h.low
 have hk:=h.k
 have e1:e.L*256^f.k=e.L*256^(f.k-e.k)*256^e.k:=by
  rw [Nat.mul_assoc,←Nat.pow_add,show f.k-e.k+e.k=f.k by omega]
 rw [e1]
 exact Nat.mul_le_mul_right _ h1
def dg:Nat→Nat→List Nat
 |0,_=>[]
 |n+1,L=>dg n (L/256)++[L% 256]
def val:List Nat→Nat
 | []=>0
 |x::xs=>x*256^xs.length+val xs
def Dig (l:List Nat):Prop:= ∀x∈l,x<256
theorem dg_len: ∀n L,(dg n L).length=n
 |0,_=>rfl
 |n+1,L=>by simp [dg,dg_len n]
theorem dg_dig: ∀n L,Dig (dg n L)
 |0,_,x,h=>by cases h
 |n+1,L,x,h=>by
  simp only [dg,List.mem_append,List.mem_singleton]at h
  rcases h with h|h
  ·exact dg_dig n _ x h
  ·omega
theorem val_append (a b:List Nat):val (a++b)=val a*256^b.length+val b:=by
 induction a with
 |nil=>simp [val]
 |cons x xs ih=>simp only [List.cons_append,val,List.length_append,ih,Nat.pow_add,Nat.add_mul,Nat.mul_assoc,Nat.add_assoc]
theorem val_dg: ∀n L,L<256^n→val (dg n L)=L
 |0,L,h=>by simp at h;subst h;rfl
 |n+1,L,h=>by
  have h1:L/256<256^n:=by
   rw [Nat.div_lt_iff_lt_mul (by omega),←Nat.pow_succ]
   exact h
  rw [dg,val_append,val_dg n _ h1]
  simp [val]
  omega
theorem val_lt: ∀ {l:List Nat},Dig l→val l<256^l.length
 | [],_=>by simp [val]
 |x::xs,h=>by
  have h1:=val_lt (l:=xs) (fun y hy=>h y (by simp [hy]))
  have h2:x<256:=h x (by simp)
  simp only [val,List.length_cons,Nat.pow_succ]
  have h3:x*256^xs.length≤255*256^xs.length:=Nat.mul_le_mul_right _ (by omega)
  omega
theorem val_inj: ∀ {a b:List Nat},Dig a→Dig b→a.length=b.length→val a=val b→a=b
 | [],[],_,_,_,_=>rfl
 | [],_::_,_,_,h,_=>by simp at h
 |_::_,[],_,_,h,_=>by simp at h
 |x::xs,y::ys,ha,hb,hl,h=>by
  have v1:=val_lt (l:=xs) (fun z hz=>ha z (by simp [hz]))
  have v2:=val_lt (l:=ys) (fun z hz=>hb z (by simp [hz]))
  have hl2:xs.length=ys.length:=by simpa using hl
  simp only [val]at h
  rw [hl2]at h v1
  have hxy:x=y:=by
   rcases Nat.lt_trichotomy x y with c|c|c
   ·have:=Nat.mul_le_mul_right (256^ys.length) c
    rw [Nat.succ_mul]at this
    omega
   ·exact c
   ·have:=Nat.mul_le_mul_right (256^ys.length) c
    rw [Nat.succ_mul]at this
    omega
  subst hxy
  rw [val_inj (fun z hz=>ha z (by simp [hz])) (fun z hz=>hb z (by simp [hz])) hl2 (by omega)]
theorem dg_val {l:List Nat}(h:Dig l):dg l.length (val l)=l:=
 val_inj (dg_dig _ _) h (dg_len _ _) (val_dg _ _ (val_lt h))
def by_ (e:E):List Nat:=dg (e.k+5) e.L
theorem Ok.lt {e:E}(h:Ok e):e.L<256^(e.k+5):=by
 have h1:=h.sum
 have h2:=h.lo
 have e1:256^(e.k+5)=256^e.k*1099511627776:=by rw [Nat.pow_add]
 have pos:0<256^e.k:=Nat.pow_pos (by omega)
 omega
theorem half_k (e:E)(one:Bool):(half e one).k=if e.R/2<16777216 then e.k+1 else e.k:=by cases one<;>(simp only [half,widen,hpart,Bool.false_eq_true,if_false,if_true];split<;>rfl)
end Go.Proofs.YthideplpcnhncaaGreatDoor.Rc
