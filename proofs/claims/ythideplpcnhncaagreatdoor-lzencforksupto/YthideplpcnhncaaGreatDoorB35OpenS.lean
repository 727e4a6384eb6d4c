/- Of no statement by itself: OpenS, OpenY, OpenL (without blanks and remarks). -/
import Derived.Test.YthideplpcnhncaaGreatDoorB19Sj
import Derived.Test.YthideplpcnhncaaGreatDoorB4Wb
import Derived.Test.YthideplpcnhncaaGreatDoorRows
import Derived.ProofKit
import Derived.OpenShut
import Derived.ShutString
import Derived.ChangeOld
import Derived.SizedLaws
import Derived.Below
import Derived.Deep.Slices
namespace Go.Proofs.YthideplpcnhncaaGreatDoor
set_option maxRecDepth 20000
open Go.ChangeShapes Go.WideShapes Go.ChangeAt Go.RowKit
set_option linter.unusedVariables false
set_option linter.unusedSimpArgs false
theorem cellsIS:Tryz.prog.cellsOf 3=1:=by kernel_rfl
theorem cellsU8:Tryz.prog.cellsOf 5=1:=by kernel_rfl
theorem cellsSy:Tryz.prog.cellsOf 34=4:=by kernel_rfl
theorem bytesSy:Tryz.prog.bytesOf 34=32:=by kernel_rfl
theorem addS (b off i j:Nat):((⟨b,off,none⟩:Addr).add i).add j=⟨b,off+i+j,none⟩:=by
 have h: ∀(b off k:Nat),(⟨b,off,none⟩:Addr).add k=⟨b,off+k,none⟩:=fun b off k=>by
  unfold Addr.add
  split
  ·next e=>simp [e]
  ·rfl
 rw [h,h]
theorem four_cells {cs:List Value}(h:cs.length=4): ∃c0 c1 c2 c3,cs=[c0,c1,c2,c3]:=by
 match cs,h with
 | [c0,c1,c2,c3],_=>exact⟨c0,c1,c2,c3,rfl⟩
def Sym.cells (y:Sym):List Value:=[.int .i64 y.k,.int .u8 y.y,.int .i64 y.l,.int .i64 y.d]
theorem open_sym {H:Type}{enc:TypeId×Value→H}{W:World}{fuel:Nat}{cs:List Value}{y:DataW H×List MemPlace}
  (hf:DataW.trod enc Tryz.prog W 0 (fun _=>true) true fuel 34 cs=some y): ∃o:Sym,cs=o.cells∧o.I:=by
 obtain⟨xs,n,_,rfl,hl,hlen,hx⟩:=DataW.trod_struct Tryz.underlying34 hf
 rw [cellsSy]at hl
 obtain⟨c0,c1,c2,c3,rfl⟩:=four_cells hl
 have h0:DataW.trod enc Tryz.prog W 0 (fun _=>true) true n 3 [c0]=xs[0]?:=by have:=hx 0 _ rfl;simpa [cellsIS]using this
 have h1:DataW.trod enc Tryz.prog W 0 (fun _=>true) true n 5 [c1]=xs[1]?:=by have:=hx 1 _ rfl;simpa [cellsIS,cellsU8]using this
 have h2:DataW.trod enc Tryz.prog W 0 (fun _=>true) true n 3 [c2]=xs[2]?:=by have:=hx 2 _ rfl;simpa [cellsIS]using this
 have h3:DataW.trod enc Tryz.prog W 0 (fun _=>true) true n 3 [c3]=xs[3]?:=by have:=hx 3 _ rfl;simpa [cellsIS]using this
 have hs:xs.length=4:=by simpa using hlen
 obtain⟨y0,e0⟩: ∃y,xs[0]?=some y:=⟨xs[0],List.getElem?_eq_getElem (by omega)⟩
 rw [e0]at h0
 obtain⟨y1,e1⟩: ∃y,xs[1]?=some y:=⟨xs[1],List.getElem?_eq_getElem (by omega)⟩
 rw [e1]at h1
 obtain⟨y2,e2⟩: ∃y,xs[2]?=some y:=⟨xs[2],List.getElem?_eq_getElem (by omega)⟩
 rw [e2]at h2
 obtain⟨y3,e3⟩: ∃y,xs[3]?=some y:=⟨xs[3],List.getElem?_eq_getElem (by omega)⟩
 rw [e3]at h3
 obtain⟨z0,q0,_,w0⟩:=DataW.trod_int Tryz.underlying3 h0
 obtain⟨z1,q1,_,w1⟩:=DataW.trod_int Tryz.underlying5 h1
 obtain⟨z2,q2,_,w2⟩:=DataW.trod_int Tryz.underlying3 h2
 obtain⟨z3,q3,_,w3⟩:=DataW.trod_int Tryz.underlying3 h3
 simp only [List.cons.injEq,and_true]at q0 q1 q2 q3
 subst q0 q1 q2 q3
 exact⟨⟨z0,z1,z2,z3⟩,rfl,⟨bounds_i64 w0,bounds_i64 w2,bounds_i64 w3,bounds_u8 w1⟩⟩
set_option maxRecDepth 100000 in
theorem open_symsL {H:Type}{enc:TypeId×Value→H}{W:World}{a:Option Addr}{len cap:Nat}{d:DataW H}{p:List MemPlace}
  (h:DataW.Trod enc Tryz.prog W 0 (fun _=>true) true 26 (.slice a len cap) d p): ∃l:List Sym,SymL W a l∧l.length=len∧(∀N,(∀elems spare,d= .slice elems spare→elems.length+spare.length≤N)→len≤N):=by
 obtain⟨fuel,hf⟩:=h
 rcases Deep.open_slice Tryz.underlying26 hf with⟨hcs,_⟩|⟨x,len',cap',m,n,D,Pl,hcs,_,hl,hm,hmm,hx,hel⟩
 ·simp [Value.cells]at hcs
  obtain⟨rfl,rfl,rfl⟩:=hcs
  exact⟨[],fun k q hk=>by simp at hk,rfl,fun _ _=>Nat.zero_le _⟩
 ·simp [Value.cells]at hcs
  obtain⟨rfl,rfl,rfl⟩:=hcs
  simp only [if_true]at hmm
  subst hmm
  simp only [Prod.mk.injEq]at hx
  have hb: ∀N,(∀elems spare,d= .slice elems spare→elems.length+spare.length≤N)→len≤N:=fun N hN=>by
   have hs:=hN _ _ hx.1
   simp only [List.length_map,List.length_range]at hs
   omega
  have hq: ∀k,∃q:Sym,k<len→q.I∧W.cells? 0 (x.add (k*4)) 4=some q.cells:=fun k=>by
   by_cases hk:k<len
   ·obtain⟨cs',h1,h2⟩:=hel k (by omega)
    rw [cellsSy]at h1
    obtain⟨q,e,h3⟩:=open_sym h2
    subst e
    exact⟨q,fun _=>⟨h3,h1⟩⟩
   ·exact⟨⟨0,0,0,0⟩,fun f=>absurd f hk⟩
  obtain⟨f,hf⟩:=Classical.axiomOfChoice hq
  refine⟨(List.range len).map f,fun k q hk=> ?_,by simp,hb⟩
  have hkl:k<len:=by
   have:=(List.getElem?_eq_some_iff.1 hk).1
   simpa using this
  have hfk:f k=q:=by simpa [hkl]using hk
  obtain⟨hv,h1⟩:=hf k hkl
  rw [hfk]at hv h1
  have hc:=(World.cells?_some h1).2.2
  obtain⟨g,off,sp⟩:=x
  have g0:=hc 0 (by simp [Sym.cells])
  have g1:=hc 1 (by simp [Sym.cells])
  have g2:=hc 2 (by simp [Sym.cells])
  have g3:=hc 3 (by simp [Sym.cells])
  have hs:sp=none:=by
   obtain⟨_,q1⟩:=hf 0 (by omega)
   have q0:=(World.cells?_some q1).2.2 0 (by simp [Sym.cells])
   simp [Addr.add]at q0
   exact World.cell?_spot q0
  subst hs
  have q0:W.cell? ⟨g,off+k*4,none⟩=some (.int .i64 q.k):=by have:=addS g off (k*4) 0;rw [Nat.add_zero]at this;rw [←this];exact g0
  exact⟨hv,g,off,rfl,q0,by rw [←addS g off (k*4) 1];exact g1,by rw [←addS g off (k*4) 2];exact g2,by rw [←addS g off (k*4) 3];exact g3⟩
end Go.Proofs.YthideplpcnhncaaGreatDoor
namespace Go.Proofs.YthideplpcnhncaaGreatDoor
set_option maxRecDepth 20000
open Go.ChangeShapes Go.WideShapes Go.ChangeAt Go.RowKit
set_option linter.unusedVariables false
set_option linter.unusedSimpArgs false
theorem bulk_pos {H:Type}(x:DataW H):1≤Rows.uptoBulk x:=by
 cases x with
 |lit l=>cases l<;>simp [Rows.uptoBulk]
 |nil=>simp [Rows.uptoBulk]
 |ptr d=>simp [Rows.uptoBulk]
 |slice e s=>simp [Rows.uptoBulk]
 |agg ps=>simp [Rows.uptoBulk]
 |iface t d=>simp [Rows.uptoBulk]
 |map es=>simp [Rows.uptoBulk]
 |held h=>simp [Rows.uptoBulk]
theorem bulk_all_len {H:Type}(l:List (DataW H)):l.length≤Rows.uptoBulkAll l:=by
 induction l with
 |nil=>simp [Rows.uptoBulkAll]
 |cons x r ih=>
  have h1:=bulk_pos x
  simp only [Rows.uptoBulkAll,List.length_cons]
  omega
theorem open_symsN {H:Type}{enc:TypeId×Value→H}{W:World}{a:Option Addr}{len cap:Nat}{d:DataW H}{p:List MemPlace}
  (h:DataW.Trod enc Tryz.prog W 0 (fun _=>true) true 26 (.slice a len cap) d p):a=none→cap=0∧len=0:=by
 obtain⟨fuel,hf⟩:=h
 rcases Deep.open_slice Tryz.underlying26 hf with⟨hcs,_⟩|⟨x,len',cap',m,n,D,Pl,hcs,_,hl,hm,hmm,hx,hel⟩
 ·simp [Value.cells]at hcs
  obtain⟨rfl,rfl,rfl⟩:=hcs
  exact fun _=>⟨rfl,rfl⟩
 ·simp [Value.cells]at hcs
  obtain⟨rfl,rfl,rfl⟩:=hcs
  exact fun e=>by cases e
end Go.Proofs.YthideplpcnhncaaGreatDoor
namespace Go.Proofs.YthideplpcnhncaaGreatDoor
set_option maxRecDepth 20000
open Go.ChangeShapes Go.WideShapes Go.ChangeAt Go.RowKit
set_option linter.unusedVariables false
set_option linter.unusedSimpArgs false
theorem cellsPr:Tryz.prog.cellsOf 23=3:=by kernel_rfl
theorem three_cells {cs:List Value}(h:cs.length=3): ∃c0 c1 c2,cs=[c0,c1,c2]:=by
 match cs,h with
 | [c0,c1,c2],_=>exact⟨c0,c1,c2,rfl⟩
theorem open_prp {H:Type}{enc:TypeId×Value→H}{W:World}{fuel:Nat}{cs:List Value}{y:DataW H×List MemPlace}
  (hf:DataW.trod enc Tryz.prog W 0 (fun _=>true) true fuel 23 cs=some y): ∃o:Prp,cs=[.int .i64 o.lc,.int .i64 o.lp,.int .i64 o.pb]∧o.I:=by
 obtain⟨xs,n,_,rfl,hl,hlen,hx⟩:=DataW.trod_struct Tryz.underlying23 hf
 rw [cellsPr]at hl
 obtain⟨c0,c1,c2,rfl⟩:=three_cells hl
 have h0:DataW.trod enc Tryz.prog W 0 (fun _=>true) true n 3 [c0]=xs[0]?:=by have:=hx 0 _ rfl;simpa [cellsIS]using this
 have h1:DataW.trod enc Tryz.prog W 0 (fun _=>true) true n 3 [c1]=xs[1]?:=by have:=hx 1 _ rfl;simpa [cellsIS]using this
 have h2:DataW.trod enc Tryz.prog W 0 (fun _=>true) true n 3 [c2]=xs[2]?:=by have:=hx 2 _ rfl;simpa [cellsIS]using this
 have hs:xs.length=3:=by simpa using hlen
 obtain⟨y0,e0⟩: ∃y,xs[0]?=some y:=⟨xs[0],List.getElem?_eq_getElem (by omega)⟩
 rw [e0]at h0
 obtain⟨y1,e1⟩: ∃y,xs[1]?=some y:=⟨xs[1],List.getElem?_eq_getElem (by omega)⟩
 rw [e1]at h1
 obtain⟨y2,e2⟩: ∃y,xs[2]?=some y:=⟨xs[2],List.getElem?_eq_getElem (by omega)⟩
 rw [e2]at h2
 obtain⟨z0,q0,_,w0⟩:=DataW.trod_int Tryz.underlying3 h0
 obtain⟨z1,q1,_,w1⟩:=DataW.trod_int Tryz.underlying3 h1
 obtain⟨z2,q2,_,w2⟩:=DataW.trod_int Tryz.underlying3 h2
 simp only [List.cons.injEq,and_true]at q0 q1 q2
 subst q0 q1 q2
 exact⟨⟨z0,z1,z2⟩,rfl,⟨bounds_i64 w0,bounds_i64 w1,bounds_i64 w2⟩⟩
theorem cellsSe:Tryz.prog.cellsOf 25=4:=by kernel_rfl
theorem open_setup {H:Type}{enc:TypeId×Value→H}{W:World}{base:Nat}{v:Value}{d:DataW H}{p:List MemPlace}
  (hok:Value.okWide Tryz.prog W .any base 25 v) (h:DataW.Trod enc Tryz.prog W 0 (fun _=>true) true 25 v d p): ∃(o:Prp) (n:Int),v= .agg #[.int .i64 o.lc,.int .i64 o.lp,.int .i64 o.pb,.int .i64 n]∧o.I∧I64 n:=by
 obtain⟨cs,rfl,hsz⟩:=okWide_struct Tryz.underlying25 hok
 obtain⟨fuel,hf⟩:=h
 obtain⟨xs,n,_,_,hl,hlen,hx⟩:=DataW.trod_struct Tryz.underlying25 hf
 rw [cellsSe]at hl
 simp only [Value.cells]at hl hx
 obtain⟨c0,c1,c2,c3,hcs⟩:=four_cells hl
 rw [hcs]at hx
 have h0:DataW.trod enc Tryz.prog W 0 (fun _=>true) true n 23 [c0,c1,c2]=xs[0]?:=by have:=hx 0 _ rfl;simpa [cellsIS,cellsPr]using this
 have h1:DataW.trod enc Tryz.prog W 0 (fun _=>true) true n 3 [c3]=xs[1]?:=by have:=hx 1 _ rfl;simpa [cellsIS,cellsPr]using this
 have hs:xs.length=2:=by simpa using hlen
 obtain⟨y0,e0⟩: ∃y,xs[0]?=some y:=⟨xs[0],List.getElem?_eq_getElem (by omega)⟩
 rw [e0]at h0
 obtain⟨y1,e1⟩: ∃y,xs[1]?=some y:=⟨xs[1],List.getElem?_eq_getElem (by omega)⟩
 rw [e1]at h1
 obtain⟨o,q0,hI⟩:=open_prp h0
 obtain⟨z1,q1,_,w1⟩:=DataW.trod_int Tryz.underlying3 h1
 simp only [List.cons.injEq,and_true]at q0 q1
 obtain⟨r0,r1,r2⟩:=q0
 subst r0 r1 r2 q1
 refine⟨o,z1,?_,hI,bounds_i64 w1⟩
 congr 1
 exact Array.toList_inj.1 (by rw [hcs])
end Go.Proofs.YthideplpcnhncaaGreatDoor
