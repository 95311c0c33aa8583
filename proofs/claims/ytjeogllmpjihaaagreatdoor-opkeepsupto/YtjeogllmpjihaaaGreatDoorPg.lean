/-
  Texts of this claim, one behind the other: Oka Okp Re6 Opv Ojo Oxb Ojw Opw Okw Cob Coz Ozx Bal Hoe Ojz Oob Oxl Oxv.
-/
import Derived.Test.YtjeogllmpjihaaaGreatDoorPf
import Derived.Test.YtjeogllmpjihaaaGreatDoorRows
import Derived.MakeChecks
import Derived.ProofKit
import Derived.OpenShut
import Derived.Lay
import Derived.Stop.Joined
import Derived.SliceStrings
import Derived.Deep.SlicePairs
import Derived.Lib.LaidU8
import Derived.SizedLaws
import Derived.ChangeSlices
import Derived.JoinedCond
import Derived.Lib.SmallJoins
import Derived.ShutString
import Derived.Below
import Derived.Deep.DeepHandedRow
import Derived.Stop.LaidErr
import Derived.LaidLaws
import Derived.Shelf.Vars
set_option maxHeartbeats 20000000
set_option maxRecDepth 100000
namespace Go.Proofs.YtjeogllmpjihaaaGreatDoor
section
open Go.RowKit Go.Lib
structure WpR (N M:Nat) (W V:World):Prop where
 os:V.os=W.os
 tape:V.tape=W.tape
 output:V.output=W.output
 size:V.heap.size=W.heap.size
 block:∀k:Nat,(k<N∨M<=k)->V.heap[k]? = W.heap[k]?
 turn:∀(k:Nat) (c:Array Value) (T:TypeId),W.heap[k]? = some (.cells c T (0,0))->∃c':Array Value,V.heap[k]? = some (.cells c' T (0,0))/\c'.size=c.size/\∀(j:Nat) p l cp,c[j]? = some (.slice p l cp)->c'[j]? = some (.slice p l cp)
theorem WpR.refl (N M:Nat) (W:World):WpR N M W W:=⟨rfl,rfl,rfl,rfl,fun _ _=>rfl,fun _ c _ h=>⟨c,h,rfl,fun _ _ _ _ h=>h⟩⟩
section
variable {N M:Nat} {W V:World} {b t:Nat} {c:Array Value} {T:TypeId}
theorem WpR.set (h:WpR N M W V) (hw:W.heap[b]? = some (.cells c T (0,0))) (hN:N<=b) (hM:b<M) (hns:∀p l cp,c[t]?≠some (.slice p l cp)) (x:Value):WpR N M W (V.setCell ⟨b,t,none⟩ x):=by
 have hk:∀k,k≠b->(V.setCell (aa b t) x).heap[k]? = V.heap[k]?:=fun k hk=>heap_setCell_other V (aa b t) k x hk
 refine ⟨h.os,h.tape,h.output,by simpa using h.size,fun k hk'=>(hk k (by omega)).trans (h.block k hk'),fun k c1 T1 h1=>?_⟩
 by_cases e:k=b
 ·subst e;rw [hw] at h1;injection h1 with h1
  injection h1 with e1 e2 _
  subst e1 e2;obtain ⟨c',h2,h3,h4⟩:=h.turn _ _ _ hw;refine ⟨_,heap_setCell_same V k t _ _ x h2,by rw [Array.size_setIfInBounds];exact h3,fun j p l cp hj=>?_⟩;rw [Array.getElem?_setIfInBounds_ne]
  ·exact h4 j p l cp hj
  ·intro q;subst q;exact hns p l cp hj
 ·obtain ⟨c',h2,h3⟩:=h.turn k c1 T1 h1;exact ⟨c',(hk k e).trans h2,h3⟩
theorem WpR.slot (h:WpR N M W V) (hw:W.heap[b]? = some (.cells c T (0,0))) {p:Option Addr} {l cp:Nat} (hc:c[t]? = some (.slice p l cp)):V.cell? ⟨b,t,none⟩=some (.slice p l cp):=by
 obtain ⟨c',h2,_,h4⟩:=h.turn _ _ _ hw;rw [Lib.cell_of_heap h2];exact h4 _ _ _ _ hc
theorem WpR.any (h:WpR N M W V) (hw:W.heap[b]? = some (.cells c T (0,0))) (ht:t<c.size):∃u,V.cell? ⟨b,t,none⟩=some u:=by
 obtain ⟨c',h2,h3,_⟩:=h.turn _ _ _ hw;have hl:t<c'.size:=by omega
 exact ⟨c'[t],by rw [Lib.cell_of_heap h2];exact Array.getElem?_eq_getElem hl⟩
theorem WpR.free (h:WpR N M W V) (hw:W.heap[b]? = some (.cells c T (0,0))) (t:Nat):V.frozen? ⟨b,t,none⟩=false:=by
 obtain ⟨c',h2,_,_⟩:=h.turn _ _ _ hw;exact Lib.frozen_of_heap h2 t
end
theorem WpR.below {N M:Nat} {W V:World} (h:WpR N M W V):Below N W V:=⟨h.os,h.tape,h.output,Nat.le_of_eq h.size.symm,fun k hk=>h.block k (Or.inl hk)⟩
theorem WpR.fr {N M:Nat} {W V:World} (h:WpR N M W V):Fr (fun k=>N<=k/\k<M) W V:=⟨h.os,h.tape,h.output,Nat.le_of_eq h.size.symm,fun k _ hn=>h.block k (by omega)⟩
theorem kY {N M:Nat} {w W:World} {T:TypeId} {k n:Nat} {v:Value} {xs:List Value} (h:w.ownsRow N T k v n xs) (hM:w.heap.size=M) (hb:Below M w W) (hn:0<n) :
  ∃(g cap:Nat) (c:Array Value),v=.slice (some ⟨g,0,none⟩) n cap/\N<=g/\g<M/\W.heap[g]? = some (.cells c T (0,0))/\n * k<=c.size/\n<=cap/\cap<=maxLen/\∀j:Nat,j<n * k->c[j]? = xs[j]?:=by
 obtain ⟨hl,⟨_,h0⟩|⟨g,cap,c,hv,hN,hg,h1,h2,h3,h4⟩⟩:=h
 ·omega
 ·have hlt:g<M:=by rw [<-hM];exact (Array.getElem?_eq_some_iff.1 hg).1
  refine ⟨g,cap,c,hv,hN,hlt,(hb.block g hlt).trans hg,?_,h1,h2,fun j hj=>?_⟩
  ·rw [h3];exact Nat.mul_le_mul_right _ h1
  ·rw [<-h4,List.getElem?_take_of_lt hj,Array.getElem?_toList]
theorem cY {α:Type} {enc:α->List Value} {k:Nat} (he:∀x,(enc x).length=k):∀(d:List α) (i j:Nat),j<k->(d.flatMap enc)[i * k+j]? = d[i]?.bind fun x=>(enc x)[j]?
 | [],i,j,_=>by simp
 | x::d,0,j,hj=>by
  rw [Nat.zero_mul,Nat.zero_add,List.flatMap_cons,List.getElem?_append_left (by rw [he];exact hj)];rfl
 | x::d,i+1,j,hj=>by
  rw [List.flatMap_cons,List.getElem?_append_right (by rw [he,Nat.succ_mul];omega),he,show (i+1) * k+j-k=i * k+j by rw [Nat.succ_mul];omega,cY he d i j hj];rfl
structure WpE (N M:Nat) (W:World) (g i:Nat) (x:Ex):Prop where
 c:∃c:Array Value,W.heap[g]? = some (.cells c 42 (0,0))/\N<=g/\g<M/\i * 10+10<=c.size/\(∀p l cp,c[i * 10]?≠some (.slice p l cp))/\c[i * 10+5]? = some x.vs/\c[i * 10+6]? = some x.es/\c[i * 10+7]? = some x.ps
 val:0<x.vo.length->∃(v:Nat) (cf:Array Value),x.vp=some ⟨v,0,none⟩/\x.vo.length<=maxLen/\N<=v/\v<M/\W.heap[v]? = some (.cells cf 45 (0,0))/\x.vo.length * 2<=cf.size/\∀(j:Nat) y,x.vo[j]? = some y->(∀p l cp,cf[j * 2]?≠some (.slice p l cp))/\cf[j * 2+1]? = some y.sl
 txt:∀y∈x.vo,0<y.txt.length->∃(v:Nat) (ct:Array Value),y.p=some ⟨v,0,none⟩/\y.txt.length<=maxLen/\N<=v/\v<M/\W.heap[v]? = some (.cells ct 9 (0,0))/\y.txt.length<=ct.size/\∀(j:Nat) p l cp,j<y.txt.length->ct[j]?≠some (.slice p l cp)
 eds:0<x.eo.length->∃(v:Nat) (c:Array Value),x.ep=some ⟨v,0,none⟩/\x.eo.length<=maxLen/\N<=v/\v<M/\W.heap[v]? = some (.cells c 47 (0,0))/\x.eo.length * 3<=c.size/\∀(j:Nat) p l cp,j<x.eo.length * 3->c[j]?≠some (.slice p l cp)
 prd:0<x.po.length->∃(v:Nat) (c:Array Value),x.pp=some ⟨v,0,none⟩/\x.po.length<=maxLen/\N<=v/\v<M/\W.heap[v]? = some (.cells c 49 (0,0))/\x.po.length * 3<=c.size/\∀(j:Nat) p l cp,j<x.po.length * 3->c[j]?≠some (.slice p l cp)
theorem zB8 {l:List Value} (h:∀u∈l,∀p n c,u≠.slice p n c) {c:Array Value} {n:Nat} (hc:∀j:Nat,j<n->c[j]? = l[j]?):∀(j:Nat) p l cp,j<n->c[j]?≠some (.slice p l cp):=fun j p n' cp hj he=>by
 rw [hc j hj] at he;exact h _ (List.mem_of_getElem? he) _ _ _ rfl
theorem zNr {N M:Nat} {w W:World} {pa:Option Addr} {ca:Nat} {d:List Ex} (ho:KEx.Own N w (.slice pa d.length ca) d) (hq:∀x∈d,xI N x w) (hM:w.heap.size=M) (hb:Below M w W) {i:Nat} {x:Ex} (hx:d[i]? = some x):∃g,pa=some ⟨g,0,none⟩/\d.length<=ca/\ca<=maxLen/\WpE N M W g i x:=by
 have hi:i<d.length:=(List.getElem?_eq_some_iff.1 hx).1;have hQ:=hq x (List.mem_of_getElem? hx);obtain ⟨g,cap,c,hv,h1,h2,h3,h4,h5,h5',h6⟩:=kY (show w.ownsRow N KEx.T KEx.k _ d.length (KEx.cells d) from ho) hM hb (by omega);injection hv with e1 e2 e3
 have hcell:∀j,j<10->c[i * 10+j]? = (yZ x)[j]?:=fun j hj=>by
  rw [h6 (i * 10+j) (by show _<d.length * 10;omega)];have:=cY (enc:=yZ) (k:=10) (fun _=>rfl) d i j hj;rw [hx] at this;exact this
 refine ⟨g,e1,by omega,by omega,⟨c,h3,h1,h2,by have:d.length * 10<=c.size:=h4;omega,?_,hcell 5 (by omega),hcell 6 (by omega),hcell 7 (by omega)⟩,?_,?_,?_,?_⟩
 ·intro p l cp he;have:=hcell 0 (by omega);rw [Nat.add_zero] at this;rw [this] at he;injection he with he
  cases he
 ·intro h0;obtain ⟨g,cap,c,hv,h1,h2,h3,h4,h5,h5',h6⟩:=kY hQ.val.1 hM hb h0;injection hv with e1 e2 e3
  refine ⟨g,c,e1,by omega,h1,h2,h3,h4,fun j y hy=>?_⟩;have hj:j<x.vo.length:=(List.getElem?_eq_some_iff.1 hy).1
  have hc:∀t,t<2->c[j * 2+t]? = (yF y)[t]?:=fun t ht=>by
   rw [h6 (j * 2+t) (by omega)];have:=cY (enc:=yF) (k:=2) (fun _=>rfl) x.vo j t ht;rw [hy] at this;exact this
  refine ⟨fun p l cp he=>?_,hc 1 (by omega)⟩;have:=hc 0 (by omega);rw [Nat.add_zero] at this;rw [this] at he;injection he with he
  cases he
 ·intro y hy h0;obtain ⟨g,cap,c,hv,h1,h2,h3,h4,h5,h5',h6⟩:=kY (show w.ownsRow N _ 1 _ y.txt.length _ from hQ.val.2 y hy) hM hb h0;injection hv with e1 e2 e3
  rw [Nat.mul_one] at h4 h6
  exact ⟨g,c,e1,by omega,h1,h2,h3,h4,zB8 (fun u hu p n c e=>by
   obtain ⟨t,_,rfl⟩:=List.mem_map.1 hu
   cases e) h6⟩
 ·intro h0;obtain ⟨g,cap,c,hv,h1,h2,h3,h4,h5,h5',h6⟩:=kY (show w.ownsRow N KE.T 3 _ x.eo.length (KE.cells x.eo) from hQ.eds) hM hb h0;injection hv with e1 e2 e3
  refine ⟨g,c,e1,by omega,h1,h2,h3,h4,zB8 (fun u hu p n c e=>?_) h6⟩;obtain ⟨t,_,ht⟩:=List.mem_flatMap.1 hu;have ht':u∈kV t:=ht;simp [kV] at ht'
  rcases ht' with rfl|rfl|rfl<;>cases e
 ·intro h0;obtain ⟨g,cap,c,hv,h1,h2,h3,h4,h5,h5',h6⟩:=kY (show w.ownsRow N KM.T 3 _ x.po.length (KM.cells x.po) from hQ.prd) hM hb h0;injection hv with e1 e2 e3
  refine ⟨g,c,e1,by omega,h1,h2,h3,h4,zB8 (fun u hu p n c e=>?_) h6⟩;obtain ⟨t,_,ht⟩:=List.mem_flatMap.1 hu;have ht':u∈uC t:=ht;simp [uC] at ht'
  rcases ht' with rfl|rfl|rfl<;>cases e
theorem WpE.one {N M:Nat} {W:World} {g i:Nat} {x:Ex} (h:WpE N M W g i x) {V:World} (hv:WpR N M W V) :
  V.cell? ⟨g,i * 10+5,none⟩=some (.slice x.vp x.vo.length x.vc)/\V.cell? ⟨g,i * 10+6,none⟩=some (.slice x.ep x.eo.length x.ec)/\V.cell? ⟨g,i * 10+7,none⟩=some (.slice x.pp x.po.length x.pc)/\(∃u,V.cell? ⟨g,i * 10,none⟩=some u)/\V.frozen? ⟨g,i * 10,none⟩=false/\∀u,WpR N M W (V.setCell ⟨g,i * 10,none⟩ u):=by
 obtain ⟨c,h1,h2,h3,h4,h5,h6,h7,h8⟩:=h.c;exact ⟨hv.slot h1 h6,hv.slot h1 h7,hv.slot h1 h8,hv.any h1 (by omega),hv.free h1 _,fun u=>hv.set h1 h2 h3 h5 u⟩
theorem WpE.two {N M:Nat} {W:World} {g i:Nat} {x:Ex} (h:WpE N M W g i x) {j:Nat} {y:Fx} (hy:x.vo[j]? = some y):∃v:Nat,x.vp=some ⟨v,0,none⟩/\x.vo.length<=maxLen/\∀V,WpR N M W V->V.cell? ⟨v,j * 2+1,none⟩=some (.slice y.p y.txt.length y.cap)/\(∃u,V.cell? ⟨v,j * 2,none⟩=some u)/\V.frozen? ⟨v,j * 2,none⟩=false/\∀u,WpR N M W (V.setCell ⟨v,j * 2,none⟩ u):=by
 have hj:j<x.vo.length:=(List.getElem?_eq_some_iff.1 hy).1;obtain ⟨v,cf,h1,h0,h2,h3,h4,h5,h6⟩:=h.val (by omega);obtain ⟨h7,h8⟩:=h6 j y hy;exact ⟨v,h1,h0,fun V hv=>⟨hv.slot h4 h8,hv.any h4 (by omega),hv.free h4 _,fun u=>hv.set h4 h2 h3 h7 u⟩⟩
theorem WpE.three {N M:Nat} {W:World} {g i:Nat} {x:Ex} (h:WpE N M W g i x) {y:Fx} (hy:y∈x.vo) {k:Nat} (hk:k<y.txt.length):∃v:Nat,y.p=some ⟨v,0,none⟩/\y.txt.length<=maxLen/\∀V,WpR N M W V->(∃u,V.cell? ⟨v,k,none⟩=some u)/\V.frozen? ⟨v,k,none⟩=false/\∀u,WpR N M W (V.setCell ⟨v,k,none⟩ u):=by
 obtain ⟨v,cf,h1,h0,h2,h3,h4,h5,h6⟩:=h.txt y hy (by omega);exact ⟨v,h1,h0,fun V hv=>⟨hv.any h4 (by omega),hv.free h4 _,fun u=>hv.set h4 h2 h3 (fun p l cp=>h6 k p l cp hk) u⟩⟩
theorem WpR.trio {N M:Nat} {W V:World} {v j n:Nat} {c:Array Value} {T:TypeId} (hv:WpR N M W V) (h4:W.heap[v]? = some (.cells c T (0,0))) (h2:N<=v) (h3:v<M) (h5:n * 3<=c.size) (h6:∀(j:Nat) p l cp,j<n * 3->c[j]?≠some (.slice p l cp)) (hj:j<n) :
  (∃u,V.cell? ⟨v,j * 3,none⟩=some u)/\(∃u,V.cell? ⟨v,j * 3+1,none⟩=some u)/\(∃u,V.cell? ⟨v,j * 3+2,none⟩=some u)/\V.frozen? ⟨v,j * 3,none⟩=false/\V.frozen? ⟨v,j * 3+1,none⟩=false/\V.frozen? ⟨v,j * 3+2,none⟩=false /\
  ∀a b c,WpR N M W (((V.setCell ⟨v,j * 3,none⟩ a).setCell ⟨v,j * 3+1,none⟩ b).setCell ⟨v,j * 3+2,none⟩ c) :=
 ⟨hv.any h4 (by omega),hv.any h4 (by omega),hv.any h4 (by omega),hv.free h4 _,hv.free h4 _,hv.free h4 _,fun a b c =>
  ((hv.set h4 h2 h3 (fun p l cp=>h6 _ p l cp (by omega)) a).set h4 h2 h3 (fun p l cp=>h6 _ p l cp (by omega)) b).set h4 h2 h3 (fun p l cp=>h6 _ p l cp (by omega)) c⟩
theorem WpE.edt {N M:Nat} {W:World} {g i:Nat} {x:Ex} (h:WpE N M W g i x) {j:Nat} (hj:j<x.eo.length):∃v:Nat,x.ep=some ⟨v,0,none⟩/\x.eo.length<=maxLen/\∀V,WpR N M W V ->
  (∃u,V.cell? ⟨v,j * 3,none⟩=some u)/\(∃u,V.cell? ⟨v,j * 3+1,none⟩=some u)/\(∃u,V.cell? ⟨v,j * 3+2,none⟩=some u)/\V.frozen? ⟨v,j * 3,none⟩=false/\V.frozen? ⟨v,j * 3+1,none⟩=false/\V.frozen? ⟨v,j * 3+2,none⟩=false /\
  ∀a b c,WpR N M W (((V.setCell ⟨v,j * 3,none⟩ a).setCell ⟨v,j * 3+1,none⟩ b).setCell ⟨v,j * 3+2,none⟩ c):=by
 obtain ⟨v,c,h1,h0,h2,h3,h4,h5,h6⟩:=h.eds (by omega);exact ⟨v,h1,h0,fun V hv=>hv.trio h4 h2 h3 h5 h6 hj⟩
theorem WpE.trm {N M:Nat} {W:World} {g i:Nat} {x:Ex} (h:WpE N M W g i x) {j:Nat} (hj:j<x.po.length):∃v:Nat,x.pp=some ⟨v,0,none⟩/\x.po.length<=maxLen/\∀V,WpR N M W V ->
  (∃u,V.cell? ⟨v,j * 3,none⟩=some u)/\(∃u,V.cell? ⟨v,j * 3+1,none⟩=some u)/\(∃u,V.cell? ⟨v,j * 3+2,none⟩=some u)/\V.frozen? ⟨v,j * 3,none⟩=false/\V.frozen? ⟨v,j * 3+1,none⟩=false/\V.frozen? ⟨v,j * 3+2,none⟩=false /\
  ∀a b c,WpR N M W (((V.setCell ⟨v,j * 3,none⟩ a).setCell ⟨v,j * 3+1,none⟩ b).setCell ⟨v,j * 3+2,none⟩ c):=by
 obtain ⟨v,c,h1,h0,h2,h3,h4,h5,h6⟩:=h.prd (by omega);exact ⟨v,h1,h0,fun V hv=>hv.trio h4 h2 h3 h5 h6 hj⟩
theorem xI.frP {n0:Nat} {x:Ex} {w W:World} {P:Nat->Prop} (h:xI n0 x w) (f:Fr P w W) (hP:∀k,n0<=k->¬ P k):xI n0 x W:=by
 have q:∀{e:TypeId} {size n:Nat} {v:Value} {xs:List Value},w.ownsRow n0 e size v n xs->W.ownsRow n0 e size v n xs:=fun h=>f.row h fun k hk=>hP k (World.ownsRow.lt h k hk).1
 exact ⟨⟨q h.val.1,fun y hy=>q (h.val.2 y hy)⟩,h.fit,q (show w.ownsRow n0 KE.T KE.k x.es x.eo.length (KE.cells x.eo) from h.eds),h.efit,q (show w.ownsRow n0 KM.T KM.k x.ps x.po.length (KM.cells x.po) from h.prd),h.pfit,h.rng⟩
end
section
open Go.RowKit Go.Lib
theorem zMP {l:List UInt8} {o:Bool} {es:List En} (h:opR l=some (o,es)):es.length<=16:=by
 unfold opR opP at h
 cases ht:xV (wY (trimPrefix l jI)) with
 | none=>rw [ht] at h;cases h
 | some x =>
  rw [ht,Option.bind_some] at h
  by_cases hx:x.length<=16
  ·rw [if_pos hx,Option.map_some] at h;have:=congrArg Prod.snd (Option.some.inj h);have h2:x=es:=this;rw [<-h2];exact hx
  ·rw [if_neg hx] at h;cases h
theorem zGj {l:List UInt8} {o:Bool} {d:List Ex} {c:Int} (h:(c=0/\opR l=some (o,d.map Ex.en))∨(c=4/\o=false/\d=[]/\opR l=none)):d.length<=16:=by
 rcases h with ⟨_,h⟩|⟨_,_,rfl,_⟩
 ·have:=zMP h;rw [List.length_map] at this;exact this
 ·exact Nat.zero_le _
theorem zM5 {l:List UInt8} {o o':Bool} {d d':List Ex} {c c':Int} (h:(c=0/\opR l=some (o,d.map Ex.en))∨(c=4/\o=false/\d=[]/\opR l=none)) (h':(c'=0/\opR l=some (o',d'.map Ex.en))∨(c'=4/\o'=false/\d'=[]/\opR l=none)) :
  c=c'/\o=o'/\d.map Ex.en=d'.map Ex.en:=by
 rcases h with ⟨rfl,h⟩|⟨rfl,rfl,rfl,h⟩<;>rcases h' with ⟨rfl,h'⟩|⟨rfl,rfl,rfl,h'⟩<;>rw [h] at h'
 ·have:=Option.some.inj h';exact ⟨rfl,congrArg Prod.fst this,congrArg Prod.snd this⟩
 ·cases h'
 ·cases h'
 ·exact ⟨rfl,rfl,rfl⟩
end
section
open Go.RowKit Go.Lib
theorem zGC (v:Value) (p:List Ed) (w:World) (hv:KE.Is w v p) (hf:jF p) :
  Calls Tryz.prog 52 #[v] w fun e w'=>e=.returned (.tuple #[.string (prE p),.int .i64 (wK p)])/\Below w.heap.size w w':=by
 have HM:Hid (Calls Tryz.prog 85 #[v] w fun e w'=>e=.returned (ii (wK p))/\w=w'):=(zAE v p w hv hf).mono fun e w' h=>⟨h.1,h.2.symm⟩
 by_cases hm:wK p=0
 ·rw [hm] at HM;obtain ⟨hl16,hn,hr,hs⟩:=sV hm;have HN:=hid hn;have HS:=hid hs;have HP:Hid (prE p=xT (p.map xB)):=by show _=_;unfold prE zLt;rw [if_pos hm]
  have HZ0:=hid hm;obtain ⟨q,cap,rfl,hd⟩:=hv;have HD:=hid hd;clear hm hn hr hs hf hd;go_enter Tryz.func52,Tryz.ntmps52;go_wp2_with (first|(go_at_call 85;refine HM.out.mono ?_;rintro e w1 ⟨rfl,rfl⟩))
  go_loopg [5,6] p.length (fun g vs vi wr=>∃i:Nat,vi=ii i/\i<=p.length/\p.length-i<=g/\Hid (Below w.heap.size w wr)/\vs=tq (xT ((p.take i).map xB)))
  case atStart=>exact ⟨0,rfl,by omega,by omega,Below.refl _ _,rfl⟩
  case round =>
   obtain ⟨i,rfl,hi,hgk,HB,rfl⟩:=hrel
   by_cases hlt:i<p.length
   ·have hltz:(i:Int)<(p.length:Int):=by omega
    have hiz:(0:Int)<=i:=by omega
    obtain ⟨b,off,rfl,hat⟩:∃b off,q=some (aa b off)/\KE.At w b off p:=by
     rcases HD.out with h|h
     ·subst h;simp at hlt
     ·exact h
    have hkc:∀W,Below w.heap.size w W->W.cell? (aa b (off+i * 3))=some (ii (p[i]).1)/\W.cell? (aa b (off+i * 3+1))=some (tq (p[i]).2.1)/\W.cell? (aa b (off+i * 3+2))=some (tq (p[i]).2.2):=fun W hW=>mX (zE.at_kept hat hW) i hlt
    have hn:=HN.out _ (List.getElem_mem hlt);have hs:=HS.out _ (List.getElem_mem hlt);have hns:=vY hn;have hss:=of_decide_eq_true hs
    have htk:(p.take (i+1)).map xB=(p.take i).map xB++[xB p[i]]:=by
     rw [List.take_succ_eq_append_getElem hlt,List.map_append];simp
    have has:∀y∈(p.take i).map xB,y.size<=418:=fun y hy=>by
     obtain ⟨t,ht,rfl⟩:=List.mem_map.1 hy;have hm:=List.mem_of_mem_take ht;exact zAD (HN.out t hm) (HS.out t hm)
    have hls:=zBA (ws:=(p.take i).map xB) (by simp;omega) has;obtain ⟨x,hx⟩:∃x,p[i]=x:=⟨_,rfl⟩;rw [hx] at hkc hns hss htk;obtain ⟨xo,xf,xt⟩:=x;simp only at hkc hns hss;have hns2:xf.size<=32:=by simpa using hns
    have hsg:=gU xo
    obtain ⟨S1,hS1,hS1s,hkey⟩:∃S1:ByteArray,S1=(if i=0 then ⟨#[]⟩ else xT ((p.take i).map xB)++⟨#[32]⟩)/\S1.size<=6705/\xT ((p.take (i+1)).map xB)=S1++xf++xL xo++⟨(zI xt.data.toList).toArray⟩:=by
     refine ⟨_,rfl,?_,?_⟩
     ·split
      ·exact Nat.zero_le _
      ·rw [ByteArray.size_append];show _+1<=_;omega
     ·rw [htk]
      split
      ·rename_i h;subst h;exact zFp _
      ·rename_i h
       refine zH4 (fun e=>h ?_) _;have:=congrArg List.length e;rw [List.length_map,List.length_take,List.length_nil] at this;omega
    have HKC:=hid hkc;have HS1:=hid hS1;have HNX:=hid hkey;have HZ:Hid (i=0->xT ((p.take i).map xB)=⟨#[]⟩):=fun e=>by rw [e];rfl
    clear hat hn hs hx htk has hkey hS1 hkc hns;obtain ⟨S,hS⟩:∃S,xT ((p.take i).map xB)=S:=⟨_,rfl⟩;rw [hS] at hls HS1 HZ ⊢;clear hS;go_upto_if 19 with fail
    go_cut [5] from 12 to 42 (fun vs wx=>wr=wx/\vs=tq S1)
    case first =>
     by_cases h0:i=0
     ·have E1:Hid (S=S1):=by show _=_;rw [HS1.out,if_pos h0,HZ.out h0]
      have hz:¬ ((0:Int)<(i:Int)):=by omega
      clear h0;go_wp2_with fail;go_meet
      case rel=>exact ⟨rfl,by rw [E1.out]⟩
     ·have e1:S1=S++⟨#[32]⟩:=by rw [HS1.out,if_neg h0]
      have hz:(0:Int)<(i:Int):=by omega
      have hA:∀w,Sem.run Tryz.prog (Op.stringOp .add S ⟨#[32]⟩) w=.ok (tq S1) w:=fun w=>by rw [e1];exact run_string_add_sum _ _ _ (by show S.size+1<=_;omega)
      clear e1 h0;go_wp2_with fail;go_meet
      case rel=>exact ⟨rfl,rfl⟩
    case rest =>
     obtain ⟨rfl,rfl⟩:=hcut;have hwl2:=wX xt.data.toList;have hwl3:xt.data.toList.length=xt.size:=by simp
     have HW:=hid (fun W=>fV xt W (by omega));have HG:Hid (∀W,Calls Tryz.prog 96 #[ii xo] W fun e w'=>e=.returned (tq (xL xo))/\W=w'):=fun W=>(qA xo W).mono fun e w' h=>⟨h.1,h.2.symm⟩
     obtain ⟨sg,hsg2⟩:∃sg,xL xo=sg:=⟨_,rfl⟩;rw [hsg2] at hsg HG HNX;obtain ⟨wt,hwt⟩:∃wt:ByteArray,⟨(zI xt.data.toList).toArray⟩=wt:=⟨_,rfl⟩;have hwts:wt.size<=384:=by rw [<-hwt];show (zI xt.data.toList).toArray.size<=384;rw [List.size_toArray];omega
     rw [hwt] at HW HNX;obtain ⟨S2,hS2⟩:∃S2:ByteArray,S1++xf=S2:=⟨_,rfl⟩;have hS2s:S2.size<=6737:=by rw [<-hS2,ByteArray.size_append];omega
     obtain ⟨S3,hS3⟩:∃S3:ByteArray,S2++sg=S3:=⟨_,rfl⟩;have hS3s:S3.size<=6739:=by rw [<-hS3,ByteArray.size_append];omega
     obtain ⟨S4,hS4⟩:∃S4:ByteArray,S3++wt=S4:=⟨_,rfl⟩;rw [hS2,hS3,hS4] at HNX;have hA:∀w,Sem.run Tryz.prog (Op.stringOp .add S1 xf) w=.ok (tq S2) w:=fun w=>by rw [<-hS2];exact run_string_add_sum _ _ _ (by omega)
     have hB:∀w,Sem.run Tryz.prog (Op.stringOp .add S2 sg) w=.ok (tq S3) w:=fun w=>by rw [<-hS3];exact run_string_add_sum _ _ _ (by omega)
     have hC:∀w,Sem.run Tryz.prog (Op.stringOp .add S3 wt) w=.ok (tq S4) w:=fun w=>by rw [<-hS4];exact run_string_add_sum _ _ _ (by omega)
     have q0:=HKC.out _ HB.out.drew;have hsz:w.heap.size<=wr.drew.heap.size:=HB.out.size;clear hwl2 hwl3 hwt hS2 hS3 hS4 hwts hS2s hS3s hS1s hls hss hns2 hsg hsg2;go_wp2_with fail;refine wp_region_held_drew (S:=fun W=>W.cell? (aa b (off+i * 3))=some (ii xo)/\W.cell? (aa b (off+i * 3+1))=some (tq xf)/\W.cell? (aa b (off+i * 3+2))=some (tq xt)) (by kernel_rfl) q0 (fun hHeld=>?_);refine tkv 0 (tq S1) hHeld ?_;simp only [Act.put,sz];refine tkv 1 (sc (some (aa b off)) p.length cap) hHeld ?_;simp only [Act.put,sz];refine tkv 2 (ii i) hHeld ?_;simp only [Act.put,sz];refine tkv 3 (.pointer (some (aa b (off+i * 3)))) hHeld ?_;simp only [Act.put,sz];refine tkv 4 (.pointer (some (aa b (off+i * 3+1)))) hHeld ?_;simp only [Act.put,sz];refine tkv 5 (tq xf) hHeld ?_;simp only [Act.put,sz];refine tkv 6 (tq S2) hHeld ?_;simp only [Act.put,sz];refine tkv 7 (sc (some (aa b off)) p.length cap) hHeld ?_;simp only [Act.put,sz];refine tkv 8 (ii i) hHeld ?_;simp only [Act.put,sz];refine tkv 9 (.pointer (some (aa b (off+i * 3)))) hHeld ?_;simp only [Act.put,sz];refine tkv 10 (.pointer (some (aa b (off+i * 3)))) hHeld ?_;simp only [Act.put,sz];refine tkv 11 (ii xo) hHeld ?_;simp only [Act.put,sz];refine tkv 14 (sc (some (aa b off)) p.length cap) hHeld ?_;simp only [Act.put,sz];refine tkv 15 (ii i) hHeld ?_;simp only [Act.put,sz];refine tkv 16 (.pointer (some (aa b (off+i * 3)))) hHeld ?_;simp only [Act.put,sz];refine tkv 17 (.pointer (some (aa b (off+i * 3+2)))) hHeld ?_;simp only [Act.put,sz];refine tkv 18 (tq xt) hHeld ?_;simp only [Act.put,sz];refine wpAnyH_ready (rs:=[12]) (by kernel_rfl) (by simp) ?_;refine AllReadyH.cons (yT rfl) (fun K hK=>?_) AllReadyH.nil;rw [if_pos (by rfl)]
     go_simp
     refine (HG.out _).mono ?_;rintro e w5 ⟨rfl,rfl⟩;go_wp2_with fail;refine hK.out _ _ q0 (fun hHeld=>?_);clear hK K
     try simp only [Act.put,sz]
     refine tkv 13 (tq S3) hHeld ?_;simp only [Act.put,sz];refine wpAnyH_ready (rs:=[19]) (by kernel_rfl) (by simp) ?_;refine AllReadyH.cons (yT rfl) (fun K hK=>?_) AllReadyH.nil;rw [if_pos (by rfl)]
     go_simp
     refine (HW.out _).mono ?_;rintro e w6 ⟨rfl,hb6⟩;have hbw6:=zQ HB.out.drew hsz hb6;have HB6:=hid hbw6;have q6:=HKC.out _ hbw6;clear hb6 hbw6;go_wp2_with fail;refine hK.out _ _ q6 (fun hHeld=>?_);clear hK K
     try simp only [Act.put,sz]
     refine tkv 20 (tq S4) hHeld ?_;simp only [Act.put,sz];refine tkv 21 (tq S4) hHeld ?_;simp only [Act.put,sz];refine wpAnyH_done (by kernel_rfl) ?_ _;go_wp2_with fail;go_roundg (p.length-(i+1))
     case measure=>omega
     case rel=>exact ⟨i+1,by go_num,by omega,by omega,HB6,by rw [HNX.out]⟩
   ·have hltz:¬ (i:Int)<(p.length:Int):=by omega
    have htk2:p.take i=p:=List.take_of_length_le (by omega);rw [htk2];clear htk2;go_wp2_with fail
    go_ret2
    exact ⟨by rw [HZ0.out,HP.out];rfl,HB.out⟩
 ·have hne:(wK p != 0)=true:=by rw [bne_iff_ne];exact hm
  have HA:Hid (prE p=⟨#[]⟩):=by show _=_;unfold prE;rw [if_neg hm]
  obtain ⟨r,hr⟩:∃r,wK p=r:=⟨_,rfl⟩;rw [hr] at hne HM;have HR:=hid hr;clear hm hr hv hf;go_enter Tryz.func52,Tryz.ntmps52;go_wp2_with (first|(go_at_call 85;refine HM.out.mono ?_;rintro e w1 ⟨rfl,rfl⟩))
  go_ret2
  exact ⟨by rw [HR.out,HA.out];rfl,Below.refl _ _⟩
end
section
open Go.RowKit Go.Lib
theorem sM {a:List (List UInt8)} (ha:a≠[]) (x:List UInt8):yB (a++[x])=yB a++32::x:=by
 rw [uE a ha (by simp),xC]
theorem gB {s x:ByteArray} {a b:List (List UInt8)} (ha:a≠[]) (hs:s.data.toList=yB a) (hx:x.data.toList=yB b) (hb:∀y∈b,y≠[]):(tN s x).data.toList=yB (a++b):=by
 unfold tN
 by_cases h:x.data.toList=[]
 ·rw [if_pos h];have:b=[]:=zFZ hb (by rw [<-hx,h]);rw [this,List.append_nil,hs]
 ·rw [if_neg h];have hne:b≠[]:=fun q=>h (by rw [hx,q];rfl)
  rw [yR,yR,hs,hx,uE a ha hne,List.append_assoc];rfl
theorem dX (s x:ByteArray):(tN s x).size<=s.size+1+x.size:=by
 unfold tN
 split
 ·omega
 ·rw [ByteArray.size_append,ByteArray.size_append];exact Nat.le_refl _
def kP (e:En):List (List UInt8):=pH e.kind::((if e.temp=⟨#[]⟩ then [] else [64::e.temp.data.toList])++((if e.kind=11∨e.kind=12 then [yH e.stamp.toNat] else [])++[pG e]))
theorem zJO (e:En):xS e=kP e++sR e:=by
 unfold xS kP;simp
theorem zKV {e:En} (h:e.kind=2):sR e=uK e 5++([63]::uK e 7):=by
 unfold sR;rw [if_pos h];rfl
theorem zGZ {e:En} (h:e.kind=7):sR e=[yH e.num.toNat]:=by
 unfold sR;rw [if_neg (by omega),if_pos h]
theorem zJA {e:En} (h:e.kind=9∨e.kind=10):sR e=[yH e.stamp.toNat]:=by
 unfold sR;rw [if_neg (by omega),if_neg (by omega),if_pos h]
theorem zJ3 {e:En} (h2:e.kind≠2) (h7:e.kind≠7) (h9:e.kind≠9) (h10:e.kind≠10):sR e=(if 0<e.iff then [[105,102],yH e.iff.toNat] else [])++(uK e 5++(uK e 8++uK e 7)):=by
 unfold sR;rw [if_neg h2,if_neg h7,if_neg (by omega)];rfl
theorem zAq {s:ByteArray} {e:En} (h:nG e) (hs:s.data.toList=yB (kP e++sR e)):s=vT e:=by
 apply ByteArray.ext
 apply Array.ext'
 rw [hs,<-zJO,zDy h]
theorem zKN (l:List UInt8):(⟨l.toArray⟩:ByteArray).size=l.length:=rfl
theorem zFO (x:Ex) (w:World) (h:uJ w x) (hm:nG x.en) :
  Calls Tryz.prog 27 #[wR x] w fun e w'=>e=.returned (.string (vT x.en))/\Below w.heap.size w w':=by
 obtain ⟨N,hN⟩:∃N,w.heap.size=N:=⟨_,rfl⟩;have HK:Hid (pN w N x (w.alloc (.cells (yZ x).toArray 42))):=by rw [<-hN];exact kK h
 have HM:=hid hm;have HN:=hid fun W=>gL x.kind W hm.k1 hm.k2
 obtain ⟨kd,hkd⟩:∃k:Int,x.kind=k:=⟨_,rfl⟩;obtain ⟨sn,hsn⟩:∃n:Nat,x.stamp=n:=⟨x.stamp.toNat,by have:=h.t0;omega⟩;have hsn1:sn<=18446744073709551615:=by have:=h.t1;omega
 obtain ⟨fi,hfi⟩:∃n:Nat,x.iff=n:=⟨x.iff.toNat,by
  by_cases q:x.iff=0
  ·omega
  ·have:0<=x.iff:=(hm.iff q).2.2.1;omega⟩
 have hfi1:fi<=999999999:=by
  by_cases q:x.iff=0
  ·omega
  ·have:x.iff<=999999999:=(hm.iff q).2.2.2;omega
 obtain ⟨nn,hnn⟩:∃n:Nat,x.num=n:=⟨x.num.toNat,by
  by_cases q:x.num=0
  ·omega
  ·have:0<=x.num:=(hm.num q).2.1;omega⟩
 have hnn1:nn<=999999999:=by
  by_cases q:x.num=0
  ·omega
  ·have:x.num<=999999999:=(hm.num q).2.2;omega
 have zka:x.ka.size<=32/\x.kb.size<=32:=by
  have hk:=hm.key;unfold xQ at hk
  split at hk
  ·simp only [Bool.and_eq_true,decide_eq_true_eq] at hk;have h1:=bK hk.2;have h2:x.kb=⟨#[]⟩:=hk.1;have e1:x.ka.data.toList.length=x.ka.size:=rfl;refine ⟨?_,by rw [h2];exact Nat.zero_le _⟩;have:x.en.ka.data.toList.length=x.ka.size:=rfl;omega
  ·exact nF hk
 have ztp:x.temp.size<=32:=by
  rcases hm.tmp with q|⟨_,q⟩
  ·have:x.temp=⟨#[]⟩:=q;rw [this];exact Nat.zero_le _
  ·exact zDM q
 obtain ⟨VL,hVL⟩:∃s,vD x.en 5=s:=⟨_,rfl⟩;obtain ⟨PL,hPL⟩:∃s,vD x.en 7=s:=⟨_,rfl⟩;obtain ⟨EL,hEL⟩:∃s,vD x.en 8=s:=⟨_,rfl⟩;have HVW:Hid (VL.data.toList=yB (uK x.en 5)):=hid (by rw [<-hVL];exact mB hm 5 (by omega) (by omega));have HPW:Hid (PL.data.toList=yB (uK x.en 7)):=hid (by rw [<-hPL];exact mB hm 7 (by omega) (by omega));have HEW:Hid (EL.data.toList=yB (uK x.en 8)):=hid (by rw [<-hEL];exact mB hm 8 (by omega) (by omega));have zVL:VL.size<=83600:=by rw [<-hVL];have:=zCg (fs:=x.en.val) hm.mayv;show (mG x.en.val).size<=_;omega
 have zPL:PL.size<=83600:=by rw [<-hPL];exact zFh _
 have zEL:EL.size<=83600:=by rw [<-hEL];exact zKL _
 have HVP:Hid (∀W,uJ W x->Calls Tryz.prog 50 #[sc x.vp x.vo.length x.vc] W fun e w'=>e=.returned (.tuple #[tq VL,ii 0])/\Below W.heap.size W w'):=hid fun W hW=>by
  rw [<-hVL];exact zGx x.vs x.vo W hW.val hW.fit hm.mayv
 have HPP:Hid (∀W,uJ W x->Calls Tryz.prog 51 #[sc x.pp x.po.length x.pc] W fun e w'=>e=.returned (.tuple #[tq PL,ii (wA x.po)])/\Below W.heap.size W w'):=hid fun W hW=>by
  rw [<-hPL];exact zEk x.ps x.po W hW.prd hW.pfit
 have HEP:Hid (∀W,uJ W x->Calls Tryz.prog 52 #[sc x.ep x.eo.length x.ec] W fun e w'=>e=.returned (.tuple #[tq EL,ii (wK x.eo)])/\Below W.heap.size W w'):=hid fun W hW=>by
  rw [<-hEL];exact zGC x.es x.eo W hW.eds hW.efit
 obtain ⟨ns,hns⟩:∃s,zCB x.kind=s:=⟨_,rfl⟩;have zns:ns.size<=7:=by rw [<-hns];exact zIE _
 obtain ⟨S1,hS1⟩:∃s,(if x.temp=⟨#[]⟩ then ns else ns++⟨#[32,64]⟩++x.temp)=s:=⟨_,rfl⟩
 have zS1:S1.size<=50:=by
  rw [<-hS1];split
  ·omega
  ·rw [ByteArray.size_append,ByteArray.size_append];have e1:(⟨#[32,64]⟩:ByteArray).size=2:=rfl;omega
 have zD:(yH sn).length<=20:=qX sn 19 (by omega);have zF:(yH fi).length<=9:=qX fi 8 (by omega);have zM:(yH nn).length<=9:=qX nn 8 (by omega);obtain ⟨D,hD⟩:∃s:ByteArray,⟨(yH sn).toArray⟩=s:=⟨_,rfl⟩;obtain ⟨DF,hDF⟩:∃s:ByteArray,⟨(yH fi).toArray⟩=s:=⟨_,rfl⟩;obtain ⟨DM,hDM⟩:∃s:ByteArray,⟨(yH nn).toArray⟩=s:=⟨_,rfl⟩;have wD:D.data.toList=yH sn:=by rw [<-hD]
 have wDF:DF.data.toList=yH fi:=by rw [<-hDF]
 have wDM:DM.data.toList=yH nn:=by rw [<-hDM]
 have zD':D.size<=20:=by rw [<-hD,zKN];exact zD
 have zF':DF.size<=20:=by rw [<-hDF,zKN];omega
 have zM':DM.size<=20:=by rw [<-hDM,zKN];omega
 have HDC:Hid (∀W,Calls Tryz.prog 53 #[iu (sn:Nat)] W fun e w'=>e=.returned (tq D)/\Below W.heap.size W w'):=hid fun W=>by rw [<-hD];exact dB sn W (by omega)
 have HDF:Hid (∀W,Calls Tryz.prog 53 #[iu (fi:Nat)] W fun e w'=>e=.returned (tq DF)/\Below W.heap.size W w'):=hid fun W=>by rw [<-hDF];exact dB fi W (by omega)
 have HDM:Hid (∀W,Calls Tryz.prog 53 #[iu (nn:Nat)] W fun e w'=>e=.returned (tq DM)/\Below W.heap.size W w'):=hid fun W=>by rw [<-hDM];exact dB nn W (by omega)
 obtain ⟨S2,hS2⟩:∃s,(if kd=11∨kd=12 then S1++⟨#[32]⟩++D else S1)=s:=⟨_,rfl⟩;have one:(⟨#[32]⟩:ByteArray).size=1:=rfl
 have zS2:S2.size<=80:=by
  rw [<-hS2];split
  ·rw [ByteArray.size_append,ByteArray.size_append];omega
  ·omega
 obtain ⟨S3,hS3⟩:∃s,S2++⟨#[32]⟩++x.ka=s:=⟨_,rfl⟩;have zS3:S3.size<=120:=by rw [<-hS3,ByteArray.size_append,ByteArray.size_append];omega
 obtain ⟨S4,hS4⟩:∃s,(if x.kb=⟨#[]⟩ then S3 else S3++⟨#[47]⟩++x.kb)=s:=⟨_,rfl⟩
 have zS4:S4.size<=160:=by
  rw [<-hS4];split
  ·omega
  ·rw [ByteArray.size_append,ByteArray.size_append];have e1:(⟨#[47]⟩:ByteArray).size=1:=rfl;omega
 have HH:Hid (S4.data.toList=yB (kP x.en)):=hid (by
  have h1:S1.data.toList=yB (pH kd::(if x.temp=⟨#[]⟩ then [] else [64::x.temp.data.toList])):=by
   rw [<-hS1,<-hns,hkd]
   split
   ·rw [xC];rfl
   ·rw [gQ,yR,yR];simp [zCB]
  have h2:S2.data.toList=yB ((pH kd::(if x.temp=⟨#[]⟩ then [] else [64::x.temp.data.toList]))++(if kd=11∨kd=12 then [yH sn] else [])):=by
   rw [<-hS2]
   split
   ·rw [sM (by simp),yR,yR,h1,wD];simp
   ·rw [List.append_nil,h1]
  have h3:S3.data.toList=S2.data.toList++32::x.ka.data.toList:=by rw [<-hS3,yR,yR];simp
  have h4:S4.data.toList=S2.data.toList++32::pG x.en:=by
   rw [<-hS4];unfold pG;show _=S2.data.toList++32::(x.ka.data.toList++if x.kb=⟨#[]⟩ then [] else 47::x.kb.data.toList)
   split
   ·rw [h3];simp
   ·rw [yR,yR,h3];simp
  have e1:kP x.en=((pH kd::(if x.temp=⟨#[]⟩ then [] else [64::x.temp.data.toList]))++(if kd=11∨kd=12 then [yH sn] else []))++[pG x.en]:=by
   unfold kP;show pH x.kind::((if x.temp=⟨#[]⟩ then [] else [64::x.temp.data.toList])++((if x.kind=11∨x.kind=12 then [yH x.stamp.toNat] else [])++[pG x.en]))=_;rw [hkd,hsn];simp
  rw [h4,e1,sM (by simp),h2])
 have hhn:kP x.en≠[]:=by unfold kP;simp
 have HE2:Hid (kd=2->tN (tN S4 VL++⟨#[32,63]⟩) PL=vT x.en):=hid fun q=>zAq hm (by
  have t1:=gB hhn HH.out HVW.out (mW hm 5 (by omega) (by omega))
  have t2:(tN S4 VL++⟨#[32,63]⟩).data.toList=yB ((kP x.en++uK x.en 5)++[[63]]):=by
   rw [yR,t1,sM (by simp [hhn])]
  rw [gB (by simp) t2 HPW.out (mW hm 7 (by omega) (by omega)),zKV (show x.kind=2 by rw [hkd,q])];simp)
 have HE7:Hid (kd=7->S4++⟨#[32]⟩++DM=vT x.en):=hid fun q=>zAq hm (by
  have e1:x.en.num.toNat=nn:=by show x.num.toNat=nn;rw [hnn];rfl
  rw [zGZ (show x.kind=7 by rw [hkd,q]),sM hhn,yR,yR,HH.out,wDM,e1];simp)
 have HE9:Hid (kd=9∨kd=10->S4++⟨#[32]⟩++D=vT x.en):=hid fun q=>zAq hm (by
  have e1:x.en.stamp.toNat=sn:=by show x.stamp.toNat=sn;rw [hsn];rfl
  rw [zJA (show x.kind=9∨x.kind=10 by rw [hkd];exact q),sM hhn,yR,yR,HH.out,wD,e1];simp)
 obtain ⟨S5,hS5⟩:∃s,(if 0<fi then S4++⟨#[32,105,102,32]⟩++DF else S4)=s:=⟨_,rfl⟩
 have zS5:S5.size<=200:=by
  rw [<-hS5];split
  ·rw [ByteArray.size_append,ByteArray.size_append];have e1:(⟨#[32,105,102,32]⟩:ByteArray).size=4:=rfl;omega
  ·omega
 have HEX:Hid (¬ kd=2->¬ kd=7->¬ kd=9->¬ kd=10->tN (tN (tN S5 VL) EL) PL=vT x.en):=hid fun q2 q7 q9 q10=>zAq hm (by
  have e1:x.en.iff.toNat=fi:=by show x.iff.toNat=fi;rw [hfi];rfl
  have t0:S5.data.toList=yB (kP x.en++(if 0<x.en.iff then [[105,102],yH x.en.iff.toNat] else [])):=by
   rw [<-hS5,e1];have e2:x.en.iff=(fi:Int):=hfi;rw [e2]
   by_cases q:0<fi
   ·rw [if_pos q,if_pos (by omega),uE _ hhn (by simp),gQ,yR,yR,HH.out,wDF];simp
   ·rw [if_neg q,if_neg (by omega),List.append_nil,HH.out]
  have n0:kP x.en++(if 0<x.en.iff then [[105,102],yH x.en.iff.toNat] else [])≠[]:=by simp [hhn]
  have t1:=gB n0 t0 HVW.out (mW hm 5 (by omega) (by omega));have t2:=gB (by simp [hhn]) t1 HEW.out (mW hm 8 (by omega) (by omega));rw [gB (by simp [hhn]) t2 HPW.out (mW hm 7 (by omega) (by omega)),zJ3 (by show x.kind≠2;rw [hkd];exact q2) (by show x.kind≠7;rw [hkd];exact q7) (by show x.kind≠9;rw [hkd];exact q9) (by show x.kind≠10;rw [hkd];exact q10)];simp)
 have HC:Hid (∀W,pN w N x W->W.cell? (aa N 0)=some (ii kd)/\W.cell? (aa N 1)=some (tq x.temp)/\W.cell? (aa N 2)=some (tq x.ka)/\W.cell? (aa N 3)=some (tq x.kb)/\W.cell? (aa N 4)=some (ii (fi:Int))/\W.cell? (aa N 5)=some (sc x.vp x.vo.length x.vc)/\W.cell? (aa N 6)=some (sc x.ep x.eo.length x.ec)/\W.cell? (aa N 7)=some (sc x.pp x.po.length x.pc)/\W.cell? (aa N 8)=some (iu (sn:Int))/\W.cell? (aa N 9)=some (ii (nn:Int))):=hid (by
  rw [<-hkd,<-hsn,<-hfi,<-hnn];exact fun W hW=>hW.cells)
 rw [hns,hkd] at HN;have HS1:=hid hS1;have HS2:=hid hS2;have HS3:=hid hS3;have HS4:=hid hS4;have HS5:=hid hS5;have hW1:=HC.out _ HK.out;have HEQ:Hid (wR x=.agg #[ii kd,tq x.temp,tq x.ka,tq x.kb,ii (fi:Int),sc x.vp x.vo.length x.vc,sc x.ep x.eo.length x.ec,sc x.pp x.po.length x.pc,iu (sn:Int),ii (nn:Int)]):=hid (by rw [<-hkd,<-hsn,<-hfi,<-hnn];rfl);have HEC:Hid (yZ x=[ii kd,tq x.temp,tq x.ka,tq x.kb,ii (fi:Int),sc x.vp x.vo.length x.vc,sc x.ep x.eo.length x.ec,sc x.pp x.po.length x.pc,iu (sn:Int),ii (nn:Int)]):=hid (by rw [<-hkd,<-hsn,<-hfi,<-hnn];rfl);rw [HEQ.out];rw [HEC.out] at HK hW1;clear hS1 hS2 hS3 hS4 hS5 hVL hPL hEL hns hkd hsn hfi hnn hD hDF hDM wD wDF wDM hm h HEQ HEC zD zF zM hhn HVW HPW HEW;have RW:∀s t:ByteArray,s.size<=100000000->t.size<=100000000->Hid (∀W,Calls Tryz.prog 54 #[tq s,tq t] W fun e w'=>e=.returned (tq (tN s t))/\w'=W):=fun s t h1 h2=>hid fun W=>zEi s t W h1 h2
 have HRW:=hid RW;clear RW;obtain ⟨c0,c1,c2,c3,c4,c5,c6,c7,c8,c9⟩:=hW1;go_enter Tryz.func27,Tryz.ntmps27;go_upto_if 33 with (first|(go_at_call 39;refine (HN.out _).mono ?_;rintro e w1 ⟨rfl,q1⟩;have K1:=hid (HK.out.on q1);clear q1 c0 c1 c2 c3 c4 c5 c6 c7 c8 c9;obtain ⟨c0,c1,c2,c3,c4,c5,c6,c7,c8,c9⟩:=HC.out _ K1.out)|(go_at_call 50;refine (HVP.out _ K1.out.ex).mono ?_;rintro e w2 ⟨rfl,q2⟩;have K2:=hid (K1.out.on q2);clear q2 c0 c1 c2 c3 c4 c5 c6 c7 c8 c9;obtain ⟨c0,c1,c2,c3,c4,c5,c6,c7,c8,c9⟩:=HC.out _ K2.out)|(go_at_call 51;refine (HPP.out _ K2.out.ex).mono ?_;rintro e w3 ⟨rfl,q3⟩;have K3:=hid (K2.out.on q3);clear q3 c0 c1 c2 c3 c4 c5 c6 c7 c8 c9;obtain ⟨c0,c1,c2,c3,c4,c5,c6,c7,c8,c9⟩:=HC.out _ K3.out)|(go_at_call 52;refine (HEP.out _ K3.out.ex).mono ?_;rintro e w4 ⟨rfl,q4⟩;have K4:=hid (K3.out.on q4);clear q4 c0 c1 c2 c3 c4 c5 c6 c7 c8 c9;obtain ⟨c0,c1,c2,c3,c4,c5,c6,c7,c8,c9⟩:=HC.out _ K4.out))
 go_cut [3] from 10 (fun v3 wx=>v3=tq S1/\Hid (pN w N x wx))
 case first =>
  by_cases q:x.temp=⟨#[]⟩
  ·have hse:x.temp.toList.isEmpty=true:=by rw [q,Lib.toList_data];rfl
   have E:Hid (ns=S1):=hid (by rw [<-HS1.out,if_pos q]);clear q;rw [hse];go_wp2_with fail;go_meet
   case rel=>exact ⟨by rw [E.out],K4⟩
  ·have hse:=pJ q;have E:Hid (ns++⟨#[32,64]⟩++x.temp=S1):=hid (by rw [<-HS1.out,if_neg q]);clear q;rw [hse];go_wp2_with fail;go_meet
   case rel=>exact ⟨by rw [E.out],K4⟩
 case rest =>
 obtain ⟨rfl,K5⟩:=hcut;clear c0 c1 c2 c3 c4 c5 c6 c7 c8 c9 K4;obtain ⟨c0,c1,c2,c3,c4,c5,c6,c7,c8,c9⟩:=HC.out _ K5.out;go_upto_region 7 with fail
 go_cut [46] from 10 (fun v46 wx=>v46=.bool (decide (kd=11∨kd=12))/\Hid (pN w N x wx))
 case first =>
  by_cases e11:kd=11
  ·have E:Hid (decide (kd=11∨kd=12)=true):=hid (decide_eq_true (Or.inl e11));have b11:(kd==11)=true:=by rw [beq_iff_eq];exact e11
   clear e11;go_wp2_with fail;go_meet
   case rel=>exact ⟨by rw [E.out],K5⟩
  have b11:(kd==11)=false:=by rw [beq_eq_false_iff_ne];exact e11
  by_cases e12:kd=12
  ·have E:Hid (decide (kd=11∨kd=12)=true):=hid (decide_eq_true (Or.inr e12));have b12:(kd==12)=true:=by rw [beq_iff_eq];exact e12
   clear e11 e12;go_wp2_with fail;go_meet
   case rel=>exact ⟨by rw [E.out],K5⟩
  have b12:(kd==12)=false:=by rw [beq_eq_false_iff_ne];exact e12
  have E:Hid (decide (kd=11∨kd=12)=false):=hid (decide_eq_false (by omega));clear e11 e12;go_wp2_with fail;go_meet
  case rel=>exact ⟨by rw [E.out],K5⟩
 case rest =>
 obtain ⟨rfl,K6⟩:=hcut;clear c0 c1 c2 c3 c4 c5 c6 c7 c8 c9 K5;obtain ⟨c0,c1,c2,c3,c4,c5,c6,c7,c8,c9⟩:=HC.out _ K6.out;go_upto_if 46 with fail
 go_cut [3] from 10 (fun v3 wx=>v3=tq S2/\Hid (pN w N x wx))
 case first =>
  by_cases e:kd=11∨kd=12
  ·have E1:decide (kd=11∨kd=12)=true:=decide_eq_true e;have E2:Hid (S1++⟨#[32]⟩++D=S2):=hid (by rw [<-HS2.out,if_pos e]);rw [E1];clear e E1;go_wp2_with (first|(go_at_call 53;refine (HDC.out _).mono ?_;rintro e w7 ⟨rfl,q7⟩;have K7:=hid (K6.out.on q7);clear q7));go_meet
   case rel=>exact ⟨by rw [E2.out],K7⟩
  ·have E1:decide (kd=11∨kd=12)=false:=decide_eq_false e;have E2:Hid (S1=S2):=hid (by rw [<-HS2.out,if_neg e]);rw [E1];clear e E1;go_wp2_with fail;go_meet
   case rel=>exact ⟨by rw [E2.out],K6⟩
 case rest =>
 obtain ⟨rfl,K7⟩:=hcut;clear c0 c1 c2 c3 c4 c5 c6 c7 c8 c9 K6;obtain ⟨c0,c1,c2,c3,c4,c5,c6,c7,c8,c9⟩:=HC.out _ K7.out;go_upto_if 62 with fail
 go_cut [3] from 10 (fun v3 wx=>v3=tq S4/\Hid (pN w N x wx))
 case first =>
  by_cases q:x.kb=⟨#[]⟩
  ·have hse:x.kb.toList.isEmpty=true:=by rw [q,Lib.toList_data];rfl
   have E:Hid (S2++⟨#[32]⟩++x.ka=S4):=hid (by rw [<-HS4.out,if_pos q,HS3.out]);clear q;rw [hse];go_wp2_with fail;go_meet
   case rel=>exact ⟨by rw [E.out],K7⟩
  ·have hse:=pJ q;have E:Hid (S2++⟨#[32]⟩++x.ka++⟨#[47]⟩++x.kb=S4):=hid (by rw [<-HS4.out,if_neg q,HS3.out]);clear q;rw [hse];go_wp2_with fail;go_meet
   case rel=>exact ⟨by rw [E.out],K7⟩
 case rest =>
 obtain ⟨rfl,K8⟩:=hcut;clear c0 c1 c2 c3 c4 c5 c6 c7 c8 c9 K7;obtain ⟨c0,c1,c2,c3,c4,c5,c6,c7,c8,c9⟩:=HC.out _ K8.out;have two:(⟨#[32,63]⟩:ByteArray).size=2:=rfl
 by_cases k2:kd=2
 case pos =>
  have R1:=HRW.out S4 VL (by omega) (by omega);have R2:=HRW.out (tN S4 VL++⟨#[32,63]⟩) PL (by rw [ByteArray.size_append];have:=dX S4 VL;omega) (by omega);have zT:(tN S4 VL).size<=100000:=by have:=dX S4 VL;omega
  have E:=hid (HE2.out k2);obtain ⟨T1,hT1⟩:∃s,tN S4 VL=s:=⟨_,rfl⟩;rw [hT1] at R1 R2 E zT;subst k2;clear hT1;go_wp2_with fail;refine (R1.out _).mono ?_;rintro e w9 ⟨rfl,rfl⟩;go_wp2_with fail;refine (R2.out _).mono ?_;rintro e w9 ⟨rfl,rfl⟩;go_wp2_with fail;go_ret;exact ⟨by first|(rw [E.out];done)|(rw [E.out];rfl),K8.out.bel⟩
 have b2:(kd==2)=false:=by rw [beq_eq_false_iff_ne];exact k2
 by_cases k7:kd=7
 case pos =>
  have E:=hid (HE7.out k7);subst k7;clear k2 b2;go_wp2_with fail;refine (HDM.out _).mono ?_;rintro e w9 ⟨rfl,q9⟩;have K9:=hid (K8.out.on q9);clear q9;go_wp2_with fail;go_ret;exact ⟨by first|(rw [E.out];done)|(rw [E.out];rfl),K9.out.bel⟩
 have b7:(kd==7)=false:=by rw [beq_eq_false_iff_ne];exact k7
 by_cases k9:kd=9
 case pos =>
  have E:=hid (HE9.out (Or.inl k9));subst k9;clear k2 b2 k7 b7;go_wp2_with fail;refine (HDC.out _).mono ?_;rintro e w9 ⟨rfl,q9⟩;have K9:=hid (K8.out.on q9);clear q9;go_wp2_with fail;go_ret;exact ⟨by first|(rw [E.out];done)|(rw [E.out];rfl),K9.out.bel⟩
 have b9:(kd==9)=false:=by rw [beq_eq_false_iff_ne];exact k9
 by_cases k10:kd=10
 case pos =>
  have E:=hid (HE9.out (Or.inr k10));subst k10;clear k2 b2 k7 b7 k9 b9;go_wp2_with fail;refine (HDC.out _).mono ?_;rintro e w9 ⟨rfl,q9⟩;have K9:=hid (K8.out.on q9);clear q9;go_wp2_with fail;go_ret;exact ⟨by first|(rw [E.out];done)|(rw [E.out];rfl),K9.out.bel⟩
 have b10:(kd==10)=false:=by rw [beq_eq_false_iff_ne];exact k10
 have E:=hid (HEX.out k2 k7 k9 k10);clear k2 k7 k9 k10;have R1:=HRW.out S5 VL (by omega) (by omega);have zT1:(tN S5 VL).size<=100000:=by have:=dX S5 VL;omega
 obtain ⟨T1,hT1⟩:∃s,tN S5 VL=s:=⟨_,rfl⟩;rw [hT1] at R1 E zT1;have R2:=HRW.out T1 EL (by omega) (by omega);have zT2:(tN T1 EL).size<=200000:=by have:=dX T1 EL;omega
 obtain ⟨T2,hT2⟩:∃s,tN T1 EL=s:=⟨_,rfl⟩;rw [hT2] at R2 E zT2;have R3:=HRW.out T2 PL (by omega) (by omega);clear hT1 hT2;go_upto_if 99 with fail
 go_cut [3] from 10 (fun v3 wx=>v3=tq S5/\Hid (pN w N x wx))
 case first =>
  by_cases q:0<fi
  ·have qz:(0:Int)<(fi:Int):=by omega
   have E2:Hid (S4++⟨#[32,105,102,32]⟩++DF=S5):=hid (by rw [<-HS5.out,if_pos q]);go_wp2_with fail;refine (HDF.out _).mono ?_;rintro e w9 ⟨rfl,q9⟩;have K9:=hid (K8.out.on q9);clear q9;go_wp2_with fail;go_meet
   case rel=>exact ⟨by rw [E2.out],K9⟩
  ·have qz:¬ (0:Int)<(fi:Int):=by omega
   have E2:Hid (S4=S5):=hid (by rw [<-HS5.out,if_neg q]);go_wp2_with fail;go_meet
   case rel=>exact ⟨by rw [E2.out],K8⟩
 case rest =>
 obtain ⟨rfl,K9⟩:=hcut;go_wp2_with fail;refine (R1.out _).mono ?_;rintro e w9 ⟨rfl,rfl⟩;go_wp2_with fail;refine (R2.out _).mono ?_;rintro e w9 ⟨rfl,rfl⟩;go_wp2_with fail;refine (R3.out _).mono ?_;rintro e w9 ⟨rfl,rfl⟩;go_wp2_with fail;go_ret;exact ⟨by first|(rw [E.out];done)|(rw [E.out];rfl),K9.out.bel⟩
end
section
open Go.Lib
theorem zGt (s:List UInt8) (l:List (List UInt8)) (x:List UInt8):Lib.join (l++[x]) s=Lib.join l s++((if l=[] then [] else s)++x):=by
 cases l with
 | nil=>simp [Lib.join]
 | cons y r =>
  rw [List.cons_append,Lib.join_cons,Lib.join_cons];simp [Lib.joinTail]
def jZ (x:Ex):List UInt8:=if pO x=true then (vT x.en).data.toList else []
def pF (once:Bool) (d:List Ex):List UInt8:=(if once=true then [111,110,99,101,32] else [])++Lib.join (d.map jZ) [32,59,32]
theorem zM4 {once:Bool} {d:List Ex} (h:∀x∈d,pO x=true):pF once d=(tK once (d.map Ex.en)).data.toList:=by
 have e:d.map jZ=((d.map Ex.en).map vT).map (·.L):=by
  rw [List.map_map,List.map_map];exact List.map_congr_left fun x hx=>by simp [jZ,h x hx]
 unfold pF tK kN;rw [e]
 cases once<;>simp
theorem zJY (once:Bool) (d:List Ex) (x:Ex):pF once (d++[x])=pF once d++((if d=[] then [] else [32,59,32])++jZ x):=by
 unfold pF;rw [List.map_append,List.map_cons,List.map_nil,zGt,List.append_assoc];simp
end
section
open Go.RowKit Go.Lib
theorem zJD (o:Bool) (d:List Ex) (i:Nat) (x:Ex) (hx:d[i]? = some x):pF o (d.take (i+1))=pF o (d.take i)++((if i=0 then [] else [32,59,32])++jZ x):=by
 rw [List.take_add_one,hx,Option.toList_some,zJY]
 have:d.take i=[]↔i=0:=by
  obtain ⟨hi,_⟩:=List.getElem?_eq_some_iff.1 hx;rw [<-List.length_eq_zero_iff,List.length_take];omega
 simp only [this]
end
section
open Go.RowKit Go.Lib
theorem zNE (o:Bool) (d:List Ex) (h:∀x∈d,pO x=true) (hl:d.length<=16) (hs:∀x∈d,0<=x.stamp/\x.stamp<=18446744073709551615):(pF o d).length<=9700000:=by
 have hj:=fQ 600000 (d.map jZ) (fun l hl=>by
  obtain ⟨x,hx,rfl⟩:=List.mem_map.1 hl;unfold jZ;rw [if_pos (h x hx)];exact zD6 x.en (dD (h x hx)).2.1 (hs x hx).1 (hs x hx).2)
 rw [List.length_map] at hj;have h2:d.length * 600003<=16 * 600003:=Nat.mul_le_mul_right _ hl;unfold pF;rw [List.length_append];have e2:(if o=true then ([111,110,99,101,32]:List UInt8) else []).length<=5:=by split<;>decide
 omega
theorem zDo (once:Bool) (v:Value) (d:List Ex) (w:World) (hd:nP w v d) :
  Calls Tryz.prog 11 #[.agg #[.bool once,v]] w fun e w' =>
   e=.returned (.tuple #[.string (if uN d=true then tK once (d.map Ex.en) else ⟨#[]⟩),.int .i64 (if uN d=true then 0 else 4)])/\Below w.heap.size w w':=by
 have HD:=hid hd;obtain ⟨a,cap,rfl,hrow⟩:=hd.row;have hlen:=hd.len;have HR:=hid hrow;have HAL:Hid (Below w.heap.size w (w.alloc (.cells #[.bool once,sc a d.length cap] 25))):=hid ((Below.refl _ _).alloc (Nat.le_refl _) _);have HBX:Hid ((w.alloc (.cells #[.bool once,sc a d.length cap] 25)).heap[w.heap.size]? = some (.cells #[.bool once,sc a d.length cap] 25 (0,0))):=hid (heap_alloc_new w _);have HMY:=hid (zBW once (sc a d.length cap) d _ (hd.on HAL.out));rw [<-cN] at HMY;clear hd hrow
 cases hm:uN d with
 | false =>
  rw [hm] at HMY;go_enter Tryz.func11,Tryz.ntmps11;go_wp2_with (go_at_call 20;refine HMY.out.mono ?_;rintro e w1 ⟨rfl,hb1⟩;have HB1:=hid (HAL.out.trans (hb1.mono HAL.out.size));clear hb1)
  go_ret2
  exact ⟨rfl,HB1.out⟩
 | true =>
  rw [hm] at HMY;have hm2:=hm;unfold uN at hm2;simp only [Bool.and_eq_true,decide_eq_true_eq,List.all_eq_true] at hm2;obtain ⟨⟨hl0,hl16⟩,hall⟩:=hm2;have HALL:=hid hall;have HSZ:Hid (∀i,(pF once (d.take i)).length<=9700000):=hid fun i=>zNE once _ (fun x hx=>HALL.out x (List.mem_of_mem_take hx)) (by rw [List.length_take];omega) fun x hx=>⟨(HD.out.each x (List.mem_of_mem_take hx)).t0,(HD.out.each x (List.mem_of_mem_take hx)).t1⟩
  have HFI:Hid (⟨(pF once d).toArray⟩=tK once (d.map Ex.en)):=hid (by
   rw [zM4 HALL.out])
  obtain ⟨b,off,rfl,hat⟩:∃b off,a=some (aa b off)/\KEx.At w b off d:=by
   rcases HR.out with h|⟨b,off,h1,h2⟩
   ·rw [h] at hl0;simp at hl0
   ·exact ⟨b,off,h1,h2⟩
  have HAT:=hid hat;clear hat HR hall hm;rw [if_pos rfl,if_pos rfl];go_enter Tryz.func11,Tryz.ntmps11;go_wp2_with fail;refine HMY.out.mono ?_;rintro e w1 ⟨rfl,hb1⟩;have HB1:=hid (HAL.out.trans (hb1.mono HAL.out.size));have HQ1:Hid (w1.heap[w.heap.size]? = some (.cells #[.bool once,sc (some (aa b off)) d.length cap] 25 (0,0))):=hid ((hb1.block _ (by simp)).trans HBX.out);obtain ⟨e0,e1,_,_⟩:=zL HQ1.out;clear hb1;go_upto_if 10 with fail
  go_cut [4] from 6 (fun v4 wx=>v4=tq ⟨(pF once []).toArray⟩/\wx=w1)
  case first =>
   cases once
   ·go_wp2_with fail
    go_meet;exact ⟨rfl,rfl⟩
   ·go_wp2_with fail
    go_meet;exact ⟨rfl,rfl⟩
  obtain ⟨rfl,rfl⟩:=hcut;go_wp2_with fail
  go_loopg [4,5] d.length (fun g v4 vi wr=>∃(i:Nat),vi=ii i/\v4=tq ⟨(pF once (d.take i)).toArray⟩/\i<=d.length/\d.length-i<=g/\Hid (Below w.heap.size w wr)/\Hid (wr.heap[w.heap.size]? = some (.cells #[.bool once,sc (some (aa b off)) d.length cap] 25 (0,0))))
  case atStart=>exact ⟨0,rfl,rfl,by omega,by omega,HB1,HQ1⟩
  case round =>
   obtain ⟨i,rfl,rfl,hi,hig,HB,HQ⟩:=hrel;have r2:wr.cell? (aa w.heap.size 1)=some (sc (some (aa b off)) d.length cap):=by rw [Lib.cell_of_heap HQ.out];rfl
   by_cases hlt:i<d.length
   ·have HLT:=hid hlt;have hltz:(i:Int)<(d.length:Int):=by omega
    have hiz:(0:Int)<=(i:Int):=by omega
    obtain ⟨y,hy⟩:∃y,d[i]? = some y:=⟨_,List.getElem?_eq_getElem hlt⟩;have HY:=hid (List.mem_of_getElem? hy);obtain ⟨c0,c1,c2,c3,c4,c5,c6,c7,c8,c9⟩:=vF (zE.at_kept HAT.out HB.out) i y hy;simp only [Nat.add_zero] at c0;have HLN:Hid (Calls Tryz.prog 27 #[.agg (vE y)] wr fun e w'=>e=.returned (tq (vT y.en))/\Below wr.heap.size wr w'):=hid (zFO y wr ((HD.out.each y HY.out).on HB.out) (xW (by rw [<-zHq];exact HALL.out y HY.out)));have HW1:=hid (zJD once d i y hy);have hle1:=HSZ.out (i+1);have hle0:=HSZ.out i;rw [HW1.out] at hle1;obtain ⟨s1,hs1⟩:∃s1:ByteArray,⟨(pF once (d.take i)).toArray⟩=s1:=⟨_,rfl⟩;have z1:s1.size<=9700000:=by rw [<-hs1];simpa [ByteArray.size] using hle0
    obtain ⟨L,hL⟩:∃L,vT y.en=L:=⟨_,rfl⟩;have hal:jZ y=L.data.toList:=by unfold jZ;rw [if_pos (HALL.out y HY.out),hL]
    rw [hal] at hle1 HW1
    have z2:L.size<=9700000:=by
     have e1:L.data.toList.length=L.size:=rfl;simp only [List.length_append] at hle1;omega
    rw [hL] at HLN
    have HA0:Hid (i=0->s1++L=⟨(pF once (d.take (i+1))).toArray⟩):=hid fun q=>by
     rw [HW1.out,if_pos q,<-hs1];apply ByteArray.ext;simp
    have HA1:Hid (¬ i=0->s1++⟨#[32,59,32]⟩++L=⟨(pF once (d.take (i+1))).toArray⟩):=hid fun q=>by
     rw [HW1.out,if_neg q,<-hs1];apply ByteArray.ext;simp
    rw [hs1];clear hs1 hL hal hle1 hle0 HW1 hy;have three:(⟨#[32,59,32]⟩:ByteArray).size=3:=rfl
    by_cases h0:i=0
    ·have h0z:¬ (0:Int)<(i:Int):=by omega
     have E:=hid (HA0.out h0);clear h0;go_wp2_with fail;refine HLN.out.mono ?_;rintro e w4 ⟨rfl,hb4⟩;have HB4:=hid (HB.out.trans (hb4.mono HB.out.size));have HQ4:=hid ((hb4.block _ (Array.getElem?_eq_some_iff.1 HQ.out).1).trans HQ.out);clear hb4;go_wp2_with fail;go_roundg (d.length-(i+1))
     case measure=>omega
     exact ⟨i+1,by go_num,by rw [E.out],HLT.out,Nat.le_refl _,HB4,HQ4⟩
    ·have h0z:(0:Int)<(i:Int):=by omega
     have E:=hid (HA1.out h0);clear h0;go_wp2_with fail;refine HLN.out.mono ?_;rintro e w4 ⟨rfl,hb4⟩;have HB4:=hid (HB.out.trans (hb4.mono HB.out.size));have HQ4:=hid ((hb4.block _ (Array.getElem?_eq_some_iff.1 HQ.out).1).trans HQ.out);clear hb4;go_wp2_with fail;go_roundg (d.length-(i+1))
     case measure=>omega
     exact ⟨i+1,by go_num,by rw [E.out],HLT.out,Nat.le_refl _,HB4,HQ4⟩
   ·obtain rfl:i=d.length:=by omega
    have hltz:¬ (d.length:Int)<(d.length:Int):=by omega
    rw [List.take_length];go_wp2_with fail
    go_ret2
    exact ⟨by first|(rw [HFI.out];done)|(rw [HFI.out];rfl),HB.out⟩
end
section
open Go.RowKit Go.Lib
theorem zH2 {d e:List Ex} (h:d.map Ex.en=e.map Ex.en):uN d=uN e:=by rw [cN,cN,h]
theorem zFw (o:Bool) (a:Option Addr) (cap:Nat) (d:List Ex) (s:ByteArray) (w:World) (hd:nP w (.slice a d.length cap) d) (hv:wQ w) (hc:∀x∈d,zCD x.vo/\x.eo.length<=1048576/\x.po.length<=1048576) (hf:d.length<=1048576) (hs:s.size<=4294967000)
  (hrp:∀W,Calls Tryz.prog 7 #[.string s] W fun e w'=>bI W s.data.toList e w') :
  Calls Tryz.prog 4 #[.agg #[.bool o,.slice a d.length cap],.string s] w fun e w'=>e=.returned (.bool true)/\Below w.heap.size w w':=by
 have HD:=hid hd
 have HV:=hid hv
 have HCP:=hid hc
 have HRP:=hid hrp
 have HPA:Hid (∀W,Below w.heap.size w W->Calls Tryz.prog 6 #[tq s] W fun e w'=>bI W s.data.toList e w'):=hid fun W hW=>kS s W (HV.out.on hW) hs
 have HFX:=hid (zFe _ (hv.on ((Below.refl w.heap.size w).alloc (Nat.le_refl _) (.cells #[.bool o,sc a d.length cap] 25))))
 obtain ⟨W0,hW0⟩:∃W0,w.alloc (.cells #[.bool o,sc a d.length cap] 25)=W0:=⟨_,rfl⟩
 have HB0:Hid (Below w.heap.size w W0):=hid (by rw [<-hW0];exact (Below.refl _ _).alloc (Nat.le_refl _) _)
 have HQ0:Hid (W0.heap[w.heap.size]? = some (.cells #[.bool o,sc a d.length cap] 25 (0,0))):=hid (by rw [<-hW0];exact heap_alloc_new w _)
 rw [hW0] at HFX
 clear hd hv hc hrp
 go_enter Tryz.func4,Tryz.ntmps4
 go_wp2_with fail
 try rw [hW0]
 clear hW0
 refine HFX.out.mono ?_
 rintro e w1 ⟨rfl,hb1⟩
 have HB1:=hid (HB0.out.trans (hb1.mono HB0.out.size))
 have HQ1:Hid (w1.heap[w.heap.size]? = some (.cells #[.bool o,sc a d.length cap] 25 (0,0))):=hid ((hb1.block _ (Array.getElem?_eq_some_iff.1 HQ0.out).1).trans HQ0.out)
 obtain ⟨k1,k2,_,_⟩:=zL HQ1.out
 have HRQ:=hid (zBJ o a cap d w1 (HD.out.on HB1.out) HCP.out hf)
 clear hb1 HFX HB0 HQ0 W0 HCP
 go_wp2_with fail
 refine HRQ.out.mono ?_
 rintro e w2 ⟨pi,di,ci,rfl,hei,hoi,hqi,hb2⟩
 have hdi:di.length<=1048576:=by have:=congrArg List.length hei;rw [List.length_map,List.length_map] at this;omega
 have HB2:=hid (HB1.out.trans (hb2.mono HB1.out.size))
 have HEI:=hid hei
 have hri:=zBc hoi hqi (by omega)
 obtain ⟨W3,hW3⟩:∃W3,w2.alloc (.cells #[.bool o,sc pi di.length ci] 25)=W3:=⟨_,rfl⟩
 have hb3:Below w2.heap.size w2 W3:=by rw [<-hW3];exact (Below.refl _ _).alloc (Nat.le_refl _) _
 have HX3:Hid (W3.heap[w2.heap.size]? = some (.cells #[.bool o,sc pi di.length ci] 25 (0,0))):=hid (by rw [<-hW3];exact heap_alloc_new w2 _)
 have HB3:=hid (HB2.out.trans (hb3.mono HB2.out.size))
 have HI3:=hid (hri.on hb3)
 have HQ3:Hid (W3.heap[w.heap.size]? = some (.cells #[.bool o,sc a d.length cap] 25 (0,0))):=hid (((hb2.mono (Nat.le_refl _)).trans (hb3.mono hb2.size) |>.block _ (Array.getElem?_eq_some_iff.1 HQ1.out).1).trans HQ1.out)
 obtain ⟨S0,hS0⟩:∃S0:ByteArray,(if uN di=true then tK o (di.map Ex.en) else ⟨#[]⟩)=S0:=⟨_,rfl⟩
 obtain ⟨E0,hE0⟩:∃E0:Int,(if uN di=true then (0:Int) else 4)=E0:=⟨_,rfl⟩
 have HPR:=hid (zAL o _ di W3 HI3.out (HV.out.on HB3.out))
 rw [hS0,hE0] at HPR
 have HS0:=hid hS0
 clear hoi hqi hei hri hb2 hb3 HRQ k1 k2 HB1 HQ1 hS0 hE0
 obtain ⟨k1,k2,_,_⟩:=zL HX3.out
 go_wp2_with fail
 try rw [hW3]
 clear hW3
 go_wp2_with fail
 refine HPR.out.mono ?_
 rintro e w4 ⟨rfl,hb4⟩
 have HB4:=hid (HB3.out.trans (hb4.mono HB3.out.size))
 have HK4:Hid (W3.heap.size<=w4.heap.size):=hid hb4.size
 have HI4:=hid (HI3.out.on hb4)
 have HX4:Hid (w4.heap[w2.heap.size]? = some (.cells #[.bool o,sc pi di.length ci] 25 (0,0))):=hid ((hb4.block _ (Array.getElem?_eq_some_iff.1 HX3.out).1).trans HX3.out)
 have HQ4:Hid (w4.heap[w.heap.size]? = some (.cells #[.bool o,sc a d.length cap] 25 (0,0))):=hid ((hb4.block _ (Array.getElem?_eq_some_iff.1 HQ3.out).1).trans HQ3.out)
 obtain ⟨N,hN⟩:∃N,w4.heap.size=N:=⟨_,rfl⟩
 have HN:=hid hN
 clear hb4 HPR k1 k2 HX3 HQ3 HI3 hN
 go_wp2_with fail
 refine (HPA.out _ HB4.out).mono ?_
 rintro e w5 ⟨⟨oa,va,da,ca1,rfl,hoa,hqa,hca⟩,hb5⟩
 obtain ⟨pa,ca,rfl⟩:=zE.own_shape hoa
 obtain ⟨M,hM⟩:∃M,w5.heap.size=M:=⟨_,rfl⟩
 have HM:=hid hM
 have HB5:=hid (HB4.out.trans (hb5.mono HB4.out.size))
 have HB45:Hid (Below N w4 w5):=hid (by rw [<-HN.out];exact hb5)
 have HOA:Hid (KEx.Own N w5 (sc pa da.length ca) da):=hid (by rw [<-HN.out];exact hoa)
 have HQA:Hid (∀x∈da,xI N x w5):=hid (by rw [<-HN.out];exact hqa)
 have hla:da.length<=16:=zGj hca
 obtain ⟨W6,hW6⟩:∃W6,w5.alloc (.cells #[.bool oa,sc pa da.length ca] 25)=W6:=⟨_,rfl⟩
 have hb6:Below w5.heap.size w5 W6:=by rw [<-hW6];exact (Below.refl _ _).alloc (Nat.le_refl _) _
 have HX6:Hid (W6.heap[M]? = some (.cells #[.bool oa,sc pa da.length ca] 25 (0,0))):=hid (by rw [<-hW6,<-hM];exact heap_alloc_new w5 _)
 have HB6:=hid (HB5.out.trans (hb6.mono HB5.out.size))
 have HB56:Hid (Below M w5 W6):=hid (by rw [<-hM];exact hb6)
 clear hoa hqa hca hb5 hb6
 go_wp2_with fail
 try rw [hW6]
 try rw [hM]
 clear hW6 hM
 refine (HPA.out _ HB6.out).mono ?_
 rintro e w7 ⟨⟨ob,vb,db,cb1,rfl,hob,hqb,hcb⟩,hb7⟩
 obtain ⟨pb,cb,rfl⟩:=zE.own_shape hob
 have HB7:=hid (HB6.out.trans (hb7.mono HB6.out.size))
 have HCB:=hid hcb
 have hM6:M<W6.heap.size:=(Array.getElem?_eq_some_iff.1 HX6.out).1
 have HB57:Hid (Below M w5 w7):=hid (HB56.out.trans (hb7.mono (Nat.le_of_lt hM6)))
 have HX7:Hid (w7.heap[M]? = some (.cells #[.bool oa,sc pa da.length ca] 25 (0,0))):=hid ((hb7.block _ hM6).trans HX6.out)
 obtain ⟨R,hR⟩:∃R,W6.heap.size=R:=⟨_,rfl⟩
 have hMR:M<R:=by rw [<-hR];exact hM6
 have HOB:Hid (KEx.Own R w7 (sc pb db.length cb) db):=hid (by rw [<-hR];exact hob)
 have HQB:Hid (∀x∈db,xI R x w7):=hid (by rw [<-hR];exact hqb)
 have HR7:Hid (R<=w7.heap.size):=hid (by rw [<-hR];exact hb7.size)
 obtain ⟨b7,hb7e⟩:∃b7,w7.heap.size=b7:=⟨_,rfl⟩
 have HE7:=hid hb7e
 obtain ⟨W8,hW8⟩:∃W8,w7.alloc (.cells #[.bool ob,sc pb db.length cb] 25)=W8:=⟨_,rfl⟩
 have hb8:Below w7.heap.size w7 W8:=by rw [<-hW8];exact (Below.refl _ _).alloc (Nat.le_refl _) _
 have HY8:Hid (W8.heap[b7]? = some (.cells #[.bool ob,sc pb db.length cb] 25 (0,0))):=hid (by rw [<-hW8,<-hb7e];exact heap_alloc_new w7 _)
 have HB8:=hid (HB7.out.trans (hb8.mono HB7.out.size))
 have HB78:Hid (Below w7.heap.size w7 W8):=hid hb8
 clear hob hqb hcb hb7 hb8 hM6 hR
 go_wp2_with fail
 try rw [hW8]
 try rw [hb7e]
 clear hW8 hb7e
 refine (HRP.out _).mono ?_
 rintro e w9 ⟨⟨ow,vw,dw,cw1,rfl,how,hqw,hcw⟩,hb9⟩
 obtain ⟨pw,cw,rfl⟩:=zE.own_shape how
 obtain ⟨rfl,rfl,hsm⟩:=zM5 HCB.out hcw
 have HSM:=hid hsm
 have HB9:=hid (HB8.out.trans (hb9.mono HB8.out.size))
 have HB79:=hid (HB78.out.trans (hb9.mono HB78.out.size))
 obtain ⟨b9,hb9e⟩:∃b9,w9.heap.size=b9:=⟨_,rfl⟩
 have HE9:=hid hb9e
 have HY9:Hid (w9.heap[b7]? = some (.cells #[.bool ob,sc pb db.length cb] 25 (0,0))):=hid ((hb9.block _ (Array.getElem?_eq_some_iff.1 HY8.out).1).trans HY8.out)
 have HSZ8:Hid (b7<W8.heap.size):=hid (Array.getElem?_eq_some_iff.1 HY8.out).1
 have HOW:Hid (KEx.Own b7 w9 (sc pw dw.length cw) dw):=hid (zE.own_weak how (Nat.le_of_lt HSZ8.out))
 have HQW:Hid (∀x∈dw,xI b7 x w9):=hid fun x hx=>(hqw x hx).weak (Nat.le_of_lt HSZ8.out)
 obtain ⟨W10,hW10⟩:∃W10,w9.alloc (.cells #[.bool ob,sc pw dw.length cw] 25)=W10:=⟨_,rfl⟩
 have hb10:Below w9.heap.size w9 W10:=by rw [<-hW10];exact (Below.refl _ _).alloc (Nat.le_refl _) _
 have HZ10:Hid (W10.heap[b9]? = some (.cells #[.bool ob,sc pw dw.length cw] 25 (0,0))):=hid (by rw [<-hW10,<-hb9e];exact heap_alloc_new w9 _)
 have HB10:=hid (HB9.out.trans (hb10.mono HB9.out.size))
 have HB710:=hid (HB79.out.trans (hb10.mono HB79.out.size))
 have HB910:=hid hb10
 have HMR:=hid hMR
 have HB510:Hid (Below M w5 W10):=hid (HB57.out.trans (HB710.out.mono (by have:=HR7.out;omega)))
 have HX10:Hid (W10.heap[M]? = some (.cells #[.bool oa,sc pa da.length ca] 25 (0,0))):=hid ((HB710.out.block _ (Array.getElem?_eq_some_iff.1 HX7.out).1).trans HX7.out)
 have HY10:Hid (W10.heap[b7]? = some (.cells #[.bool ob,sc pb db.length cb] 25 (0,0))):=hid ((HB910.out.block _ (Array.getElem?_eq_some_iff.1 HY9.out).1).trans HY9.out)
 have HWP:Hid (WpR N M W10 W10):=hid (WpR.refl N M W10)
 clear how hqw hcw hb9 hsm hb10
 go_upto_region 8 with fail
 try rw [hW10]
 try rw [hb9e]
 clear hW10 hb9e
 obtain ⟨k1,k2,_,_⟩:=zL HX10.out
 go_wp2_with fail
 clear k1 k2
 go_loopg [49] da.length (fun g vi wr=>∃i:Nat,vi=ii i/\i<=da.length/\da.length-i<=g/\Hid (WpR N M W10 wr))
 case atStart=>exact ⟨0,rfl,by omega,by omega,HWP⟩
 case round =>
  clear HWP
  obtain ⟨i,rfl,hi,hig,HW⟩:=hrel
  have ka:wr.cell? (aa M 1)=some (sc pa da.length ca):=by rw [Lib.cell_of_heap ((HW.out.block M (Or.inr (Nat.le_refl _))).trans HX10.out)];rfl
  by_cases hlt:i<da.length
  ·have hltz:(i:Int)<(da.length:Int):=by omega
   have hiz:(0:Int)<=(i:Int):=by omega
   obtain ⟨x,hx⟩:∃x,da[i]? = some x:=⟨_,List.getElem?_eq_getElem hlt⟩
   obtain ⟨g,rfl,-,-,hE⟩:=zNr HOA.out HQA.out HM.out HB510.out hx
   have HE:=hid hE
   have HKA:Hid (∀V,WpR N M W10 V->V.cell? (aa M 1)=some (sc (some (aa g 0)) da.length ca)):=hid fun V hV=>by rw [Lib.cell_of_heap ((hV.block M (Or.inr (Nat.le_refl _))).trans HX10.out)];rfl
   obtain ⟨c5,-,-,-,-,-⟩:=hE.one HW.out
   clear hx hE
   go_wp2_with fail
   clear c5 ka
   go_loopg [61] x.vo.length (fun g vj ws=>∃j:Nat,vj=ii j/\j<=x.vo.length/\x.vo.length-j<=g/\Hid (WpR N M W10 ws))
   case atStart=>exact ⟨0,rfl,by omega,by omega,HW⟩
   case round =>
    clear HW
    obtain ⟨j,rfl,hj,hjg,HW⟩:=hrel
    obtain ⟨c5,c6,-,-,-,-⟩:=HE.out.one HW.out
    by_cases hlj:j<x.vo.length
    ·as_aux_lemma =>
     have hljz:(j:Int)<(x.vo.length:Int):=by omega
     have hjz:(0:Int)<=(j:Int):=by omega
     obtain ⟨y,hy⟩:∃y,x.vo[j]? = some y:=⟨_,List.getElem?_eq_getElem hlj⟩
     obtain ⟨v,hv,hvl,hv2⟩:=HE.out.two hy
     have HY:=hid hy
     have HV2:=hid hv2
     rw [hv] at c5
     obtain ⟨e1,-,-,-⟩:=hv2 wr HW.out
     have HVP:=hid hv
     unfold maxLen at hvl
     clear hy hv2 hv c6
     go_wp2_with fail
     clear c5 e1
     go_loopg [73] y.txt.length (fun g vk ws=>∃k:Nat,vk=ii k/\k<=y.txt.length/\y.txt.length-k<=g/\Hid (WpR N M W10 ws))
     case atStart=>exact ⟨0,rfl,by omega,by omega,HW⟩
     case round =>
      clear HW
      obtain ⟨k,rfl,hk,hkg,HW⟩:=hrel
      obtain ⟨c5,-,-,-,-,-⟩:=HE.out.one HW.out
      rw [HVP.out] at c5
      obtain ⟨e1,⟨u0,e0⟩,f0,hw⟩:=HV2.out wr HW.out
      by_cases hlk:k<y.txt.length
      ·have hlkz:(k:Int)<(y.txt.length:Int):=by omega
       have hkz:(0:Int)<=(k:Int):=by omega
       obtain ⟨t,ht,htl,ht2⟩:=HE.out.three (List.mem_of_getElem? HY.out) hlk
       obtain ⟨⟨u1,t0⟩,t1,hw2⟩:=ht2 wr HW.out
       have HNX:=hid (hw2 (tq ⟨#[119,105,112,101,100]⟩))
       rw [ht] at e1
       unfold maxLen at htl
       clear ht ht2 hw hw2 e0 f0 HW
       go_wp2_with fail
       go_roundg (y.txt.length-(k+1))
       case measure=>omega
       exact ⟨k+1,by go_num,by omega,by omega,HNX⟩
      ·have hlkz:¬ (k:Int)<(y.txt.length:Int):=by omega
       have HNX:=hid (hw (tq ⟨#[119,105,112,101,100]⟩))
       clear hw e1 HW
       go_wp2_with fail
       go_roundg (x.vo.length-(j+1))
       case measure=>omega
       exact ⟨j+1,by go_num,by omega,by omega,HNX⟩
    have hljz:¬ (j:Int)<(x.vo.length:Int):=by omega
    clear c5
    go_wp2_with fail
    clear c6
    go_loopg [100] x.eo.length (fun g vj ws=>∃j:Nat,vj=ii j/\j<=x.eo.length/\x.eo.length-j<=g/\Hid (WpR N M W10 ws))
    case atStart=>exact ⟨0,rfl,by omega,by omega,HW⟩
    case round =>
     clear HW hlj hljz hj hjg
     obtain ⟨j,rfl,hj,hjg,HW⟩:=hrel
     obtain ⟨-,c6,c7,-,-,-⟩:=HE.out.one HW.out
     by_cases hlj:j<x.eo.length
     ·as_aux_lemma =>
      have hljz:(j:Int)<(x.eo.length:Int):=by omega
      have hjz:(0:Int)<=(j:Int):=by omega
      obtain ⟨v,hv,hvl,hv2⟩:=HE.out.edt hlj
      rw [hv] at c6
      obtain ⟨⟨u0,e0⟩,⟨u1,e1⟩,⟨u2,e2⟩,f0,f1,f2,hw⟩:=hv2 wr HW.out
      have HNX:=hid (hw (ii 0) (tq ⟨#[]⟩) (tq ⟨#[]⟩))
      unfold maxLen at hvl
      clear hv2 hv c7 hw HW
      go_wp2_with fail
      go_roundg (x.eo.length-(j+1))
      case measure=>omega
      exact ⟨j+1,by go_num,by omega,by omega,HNX⟩
     have hljz:¬ (j:Int)<(x.eo.length:Int):=by omega
     clear c6
     go_wp2_with fail
     clear c7
     go_loopg [116] x.po.length (fun g vj ws=>∃j:Nat,vj=ii j/\j<=x.po.length/\x.po.length-j<=g/\Hid (WpR N M W10 ws))
     case atStart=>exact ⟨0,rfl,by omega,by omega,HW⟩
     case round =>
      clear HW hlj hljz hj hjg
      obtain ⟨j,rfl,hj,hjg,HW⟩:=hrel
      obtain ⟨-,-,c7,⟨u,q0⟩,q1,hk⟩:=HE.out.one HW.out
      by_cases hlj:j<x.po.length
      ·as_aux_lemma =>
       have hljz:(j:Int)<(x.po.length:Int):=by omega
       have hjz:(0:Int)<=(j:Int):=by omega
       obtain ⟨v,hv,hvl,hv2⟩:=HE.out.trm hlj
       rw [hv] at c7
       obtain ⟨⟨u0,e0⟩,⟨u1,e1⟩,⟨u2,e2⟩,f0,f1,f2,hw⟩:=hv2 wr HW.out
       have HNX:=hid (hw (tq ⟨#[]⟩) (ii 0) (tq ⟨#[]⟩))
       unfold maxLen at hvl
       clear hv2 hv hw hk q0 q1 HW
       go_wp2_with fail
       go_roundg (x.po.length-(j+1))
       case measure=>omega
       exact ⟨j+1,by go_num,by omega,by omega,HNX⟩
      have hljz:¬ (j:Int)<(x.po.length:Int):=by omega
      have HNX:=hid (hk (ii 0))
      clear c7 hk HW
      go_wp2_with fail
      go_roundg (da.length-(i+1))
      case measure=>omega
      exact ⟨i+1,by go_num,by omega,by omega,HNX⟩
  ·have hltz:¬ (i:Int)<(da.length:Int):=by omega
   clear ka hlt
   have hNM:N<=M:=by rw [<-HN.out,<-HM.out];have:=HB45.out.size;exact this
   have hwN:w.heap.size<N:=by rw [<-HN.out];exact (Array.getElem?_eq_some_iff.1 HQ4.out).1
   have hiN:w2.heap.size<N:=by rw [<-HN.out];exact (Array.getElem?_eq_some_iff.1 HX4.out).1
   have h4r:Below N w4 wr:=(HB45.out.trans (HB510.out.mono hNM)).trans HW.out.below
   have HQR:Hid (wr.heap[w.heap.size]? = some (.cells #[.bool o,sc a d.length cap] 25 (0,0))):=hid ((h4r.block _ hwN).trans HQ4.out)
   have HXR:Hid (wr.heap[w2.heap.size]? = some (.cells #[.bool o,sc pi di.length ci] 25 (0,0))):=hid ((h4r.block _ hiN).trans HX4.out)
   have HBR:Hid (Below w.heap.size w wr):=hid (HB4.out.trans (h4r.mono (Nat.le_of_lt hwN)))
   have HIR:Hid (nP wr (sc pi di.length ci) di):=hid (HI4.out.on (by rw [HN.out];exact h4r))
   have hR7:=HR7.out
   rw [HE7.out] at hR7
   have h79:b7<=b9:=by rw [<-HE7.out,<-HE9.out];exact HB79.out.size
   have hfp:∀n,R<=n->∀k,n<=k->¬ (N<=k/\k<M):=fun n h1 k h2 h3=>by omega
   have HRB:Hid (nP wr (sc pb db.length cb) db):=hid (zBc (n:=R) (HW.out.fr.row (show W10.ownsRow R KEx.T KEx.k _ db.length (KEx.cells db) from zE.own_on HOB.out HB710.out) fun k hk=>hfp R (Nat.le_refl _) k (World.ownsRow.lt (show W10.ownsRow R KEx.T KEx.k _ db.length (KEx.cells db) from zE.own_on HOB.out HB710.out) k hk).1)
    (fun x hx=>((HQB.out x hx).on HB710.out).frP HW.out.fr (hfp R (Nat.le_refl _))) (by have:=zGj HCB.out;omega))
   have hlw:dw.length<=16:=by have h1:=zGj HCB.out;have h2:=congrArg List.length HSM.out;rw [List.length_map,List.length_map] at h2;omega
   have HRW:Hid (nP wr (sc pw dw.length cw) dw):=hid (zBc (n:=b7) (HW.out.fr.row (show W10.ownsRow b7 KEx.T KEx.k _ dw.length (KEx.cells dw) from zE.own_on HOW.out HB910.out) fun k hk=>hfp b7 hR7 k (World.ownsRow.lt (show W10.ownsRow b7 KEx.T KEx.k _ dw.length (KEx.cells dw) from zE.own_on HOW.out HB910.out) k hk).1)
    (fun x hx=>((HQW.out x hx).on HB910.out).frP HW.out.fr (hfp b7 hR7)) (by omega))
   have HYR:Hid (wr.heap[b7]? = some (.cells #[.bool ob,sc pb db.length cb] 25 (0,0))):=hid ((HW.out.block b7 (Or.inr (by omega))).trans HY10.out)
   have HZR:Hid (wr.heap[b9]? = some (.cells #[.bool ob,sc pw dw.length cw] 25 (0,0))):=hid ((HW.out.block b9 (Or.inr (by omega))).trans HZ10.out)
   have HRT:=hid (zDo o _ d wr (HD.out.on HBR.out))
   rw [show (if uN d=true then tK o (d.map Ex.en) else ⟨#[]⟩)=S0 by rw [<-HS0.out,zH2 HEI.out,HEI.out]] at HRT
   obtain ⟨E1,hE1⟩:∃E1:Int,(if uN d=true then (0:Int) else 4)=E1:=⟨_,rfl⟩
   rw [hE1] at HRT
   obtain ⟨k1,k2,_,_⟩:=zL HQR.out
   have hss:(S0.toList==S0.toList)=true:=beq_self_eq_true _
   clear HW h4r hNM hwN hiN hR7 h79 hfp hE1
   go_wp2_with fail
   refine HRT.out.mono ?_
   rintro e w11 ⟨rfl,hb11⟩
   have HB11:=hid (HBR.out.trans (hb11.mono HBR.out.size))
   have on1:∀{b:Nat} {x:Option Obj},wr.heap[b]? = x->b<wr.heap.size->w11.heap[b]? = x:=fun h hl=>(hb11.block _ hl).trans h
   have HQ11:=hid (on1 HQR.out (Array.getElem?_eq_some_iff.1 HQR.out).1)
   have HX11:=hid (on1 HXR.out (Array.getElem?_eq_some_iff.1 HXR.out).1)
   have HY11:=hid (on1 HYR.out (Array.getElem?_eq_some_iff.1 HYR.out).1)
   have HZ11:=hid (on1 HZR.out (Array.getElem?_eq_some_iff.1 HZR.out).1)
   have HRB11:=hid (HRB.out.on hb11)
   have HRW11:=hid (HRW.out.on hb11)
   have HEQ:=hid (cK o o (sc pi di.length ci) (sc a d.length cap) di d w11 (HIR.out.on hb11) (HD.out.on HB11.out))
   rw [decide_eq_true (⟨rfl,HEI.out⟩:o=o/\di.map Ex.en=d.map Ex.en)] at HEQ
   clear k1 k2 on1 hb11
   obtain ⟨k1,k2,_,_⟩:=zL HQ11.out
   obtain ⟨l1,l2,_,_⟩:=zL HX11.out
   go_wp2_with fail
   refine HEQ.out.mono ?_
   rintro e w12 ⟨rfl,hb12⟩
   have HB12:=hid (HB11.out.trans (hb12.mono HB11.out.size))
   have HY12:=hid ((hb12.block _ (Array.getElem?_eq_some_iff.1 HY11.out).1).trans HY11.out)
   have HZ12:=hid ((hb12.block _ (Array.getElem?_eq_some_iff.1 HZ11.out).1).trans HZ11.out)
   have HEW:=hid (cK ob ob (sc pb db.length cb) (sc pw dw.length cw) db dw w12 (HRB11.out.on hb12) (HRW11.out.on hb12))
   rw [decide_eq_true (⟨rfl,HSM.out⟩:ob=ob/\db.map Ex.en=dw.map Ex.en)] at HEW
   clear k1 k2 l1 l2 hb12
   obtain ⟨k1,k2,_,_⟩:=zL HY12.out
   obtain ⟨l1,l2,_,_⟩:=zL HZ12.out
   go_wp2_with fail
   refine HEW.out.mono ?_
   rintro e w13 ⟨rfl,hb13⟩
   have HB13:=hid (HB12.out.trans (hb13.mono HB12.out.size))
   clear hb13
   go_wp2_with fail
   go_ret
   exact ⟨rfl,HB13.out⟩
end
section
open Go.ChangeShapes Go.WideShapes Go.ChangeAt Go.RowKit Go.Lib Go.Deep Go.Joins
theorem Tryz.own:ownKnob Tryz.prog.godebug=none:=by kernel_rfl
theorem Tryz.laidOut:laidOutB Tryz.prog=true:=by kernel_rfl
theorem Tryz.cellsFld:Tryz.prog.cellsOf 45=2:=by kernel_rfl
theorem Tryz.cellsStr:Tryz.prog.cellsOf 9=1:=by kernel_rfl
theorem Tryz.cellsStrs:Tryz.prog.cellsOf 43=1:=by kernel_rfl
end
section
open Go.ChangeShapes Go.WideShapes Go.ChangeAt Go.RowKit Go.Lib Go.Deep Go.Joins
theorem Tryz.bytesStr:Tryz.prog.bytesOf 9=16:=by kernel_rfl
theorem Tryz.bytesFld:Tryz.prog.bytesOf 45=40:=by kernel_rfl
theorem nU {H:Type} {P:Program} {e:TypeId} {d:DataW H} {n:Nat} (hn:n∈d.weights P e):∀{l:List (DataW H)},d∈l->n∈DataW.weightsAll P e l
 | x::r,h=>by
  simp only [DataW.weightsAll,List.mem_append]
  rcases List.mem_cons.1 h with rfl|h
  ·exact Or.inl hn
  ·exact Or.inr (nU hn h)
theorem zI9 {H:Type} {enc:TypeId × Value->H} {W:World} {f:Nat} {v:Value} {x:DataW H × List MemPlace} (h:DataW.trod enc Tryz.prog W 0 (fun _=>true) true f 43 [v]=some x) :
  ∃p cap,∃ts:List ByteArray,v=.slice p ts.length cap/\wJ W p ts/\zOB ts/\(ts.length=0∨∃n∈x.1.weights Tryz.prog 43,ts.length * 16<=n):=by
 rcases open_strings Tryz.underlying43 Tryz.underlying9 Tryz.cellsStr h with ⟨hcs,hx⟩|⟨a,l,c,ss,hcs,_,hl,hm,hz,hx,hcell,hws⟩
 ·simp at hcs
  exact ⟨none,0,[],hcs,Or.inl rfl,⟨by unfold maxLen;simp,fun t ht=>by simp at ht⟩,Or.inl rfl⟩
 ·simp at hcs
  have hz':ss.length=c:=by simpa using hz
  have hlen:(ss.take l).length=l:=by rw [List.length_take];omega
  refine ⟨some a,c,ss.take l,by rw [hlen];exact hcs,?_,⟨by omega,fun t ht=>hws t (List.mem_of_mem_take ht)⟩,Or.inr ?_⟩
  ·by_cases h0:l=0
   ·subst h0;exact Or.inl rfl
   ·right;have hc0:=hcell 0 (by omega);obtain ⟨b,off,spot⟩:=a;have hspot:spot=none:=by simpa [Addr.add] using World.cell?_spot hc0
    subst hspot;refine ⟨b,off,rfl,fun i hi=>?_⟩;rw [hlen] at hi;have:=hcell i (by omega);rw [addr_add] at this;rw [this,List.getElem_take,List.getD_eq_getElem?_getD,List.getElem?_eq_getElem (by omega)];rfl
  ·rw [hx,hlen];simp only [DataW.weights,Tryz.underlying43];refine ⟨_,List.mem_cons_self,?_⟩;rw [Tryz.bytesStr];have hb2:(strs (ss.take l):List (DataW H)).length=l:=by rw [show (strs (ss.take l):List (DataW H)).length=(ss.take l).length by simp [strs],hlen]
   rw [hb2];exact Nat.mul_le_mul_right 16 (by omega)
theorem zGX {H:Type} {enc:TypeId × Value->H} {W:World} {fuel:Nat} {v:Value} {dd:DataW H} {p:List MemPlace}
  (hf:DataW.trod enc Tryz.prog W 0 (fun _=>true) true fuel 37 [v]=some (dd,p)) (hZ:∀n∈dd.weights Tryz.prog 37,n<=reachBytes):∃d:List Fx,qZ W v d/\sD d/\zCD d:=by
 have hrb:=reachBytes_lt
 rcases open_slice_pairs Tryz.underlying37 Tryz.underlying45 Tryz.cellsFld rfl rfl Tryz.cellsStr Tryz.cellsStrs hf with ⟨hcs,_⟩|⟨a,len,cap,m,n,V0,V1,D0,D1,P0,P1,hcs,_,hl,hm,hmm,hdat,hall⟩
 ·simp at hcs
  subst hcs;exact ⟨[],⟨none,0,rfl,Or.inl rfl,fun x hx=>by simp at hx⟩,⟨by unfold maxLen;simp,fun x hx=>by simp at hx⟩,by simp,fun x hx=>by simp at hx⟩
 ·simp at hcs
  subst hcs;have hm':m=cap:=by simpa using hmm
  subst hm'
  have each:∀i,i<m->∃x:Fx,V0 i=.string x.name/\V1 i=x.sl/\wJ W x.p x.txt/\zMx x.fld/\(x.txt.length=0∨∃n∈(D1 i).weights Tryz.prog 43,x.txt.length * 16<=n):=by
   intro i hi;obtain ⟨_,_,h3,h4⟩:=hall i hi;obtain ⟨s,e0,_,hs⟩:=DataW.trod_string Tryz.underlying9 h3;simp only [List.cons.injEq,and_true] at e0;obtain ⟨q,cc,ts,e1,ht,hft,hbk⟩:=zI9 h4;exact ⟨⟨s,q,cc,ts⟩,e0,e1,ht,⟨hs,hft⟩,hbk⟩
  have hdd:dd=.slice ((List.range len).map fun i=>.agg [D0 i,D1 i]) ((List.range (m-len)).map fun j=>.agg [D0 (len+j),D1 (len+j)]):=congrArg Prod.fst hdat
  have hwl:len * 40<=reachBytes:=by
   have:=hZ ((((List.range len).map fun i=>DataW.agg [D0 i,D1 i]).length+((List.range (m-len)).map fun j=>DataW.agg [D0 (len+j),D1 (len+j)]).length) * Tryz.prog.bytesOf 45) (by
    rw [hdd];simp only [DataW.weights,Tryz.underlying37];exact List.mem_cons_self)
   rw [Tryz.bytesFld] at this;simp only [List.length_map,List.length_range] at this;omega
  have hwi:∀i,i<len->∀n∈(D1 i).weights Tryz.prog 43,n<=reachBytes:=fun i hi n hn=>by
   refine hZ n ?_;rw [hdd];simp only [DataW.weights,Tryz.underlying37];refine List.mem_cons_of_mem _ (List.mem_append.2 (Or.inl (nU (d:=.agg [D0 i,D1 i]) ?_ (List.mem_map.2 ⟨i,List.mem_range.2 hi,rfl⟩))));simp only [DataW.weights,Tryz.underlying45];exact List.mem_append.2 (Or.inr (List.mem_append.2 (Or.inl hn)))
  by_cases h0:len=0
  ·subst h0;exact ⟨[],⟨_,_,rfl,Or.inl rfl,fun x hx=>by simp at hx⟩,⟨by unfold maxLen;simp,fun x hx=>by simp at hx⟩,by simp,fun x hx=>by simp at hx⟩
  ·have hc0:=(hall 0 (by omega)).1;obtain ⟨b,off,spot⟩:=a;have hspot:spot=none:=by simpa [Addr.add] using World.cell?_spot hc0
   subst hspot
   let f:Nat->Fx:=fun i=>if h:i<m then (each i h).choose else default
   have fs:∀i (h:i<m),V0 i=.string (f i).name/\V1 i=(f i).sl/\wJ W (f i).p (f i).txt/\zMx (f i).fld/\((f i).txt.length=0∨∃n∈(D1 i).weights Tryz.prog 43,(f i).txt.length * 16<=n):=fun i h=>by
    have e:f i=(each i h).choose:=dif_pos h;rw [e];exact (each i h).choose_spec
   have hlen:((List.range len).map f).length=len:=by simp
   refine ⟨(List.range len).map f,⟨_,m,by rw [hlen],Or.inr ⟨b,off,rfl,fun i hi=>?_⟩,fun x hx=>?_⟩,⟨by rw [hlen];omega,fun x hx=>?_⟩,by rw [hlen];omega,fun x hx=>?_⟩
   ·have hi0:i<len:=by simpa using hi
    obtain ⟨h1,h2,_,_⟩:=hall i (by omega);obtain ⟨g1,g2,_⟩:=fs i (by omega);rw [addr_add] at h1 h2;have ef:((List.range len).map f)[i]'hi=f i:=by simp
    rw [ef,h1,<-g1];refine ⟨rfl,?_⟩;rw [Nat.add_assoc,h2,g2]
   ·obtain ⟨i,hi,rfl⟩:=List.mem_map.1 hx;exact (fs i (by have:=List.mem_range.1 hi;omega)).2.2.1
   ·obtain ⟨i,hi,rfl⟩:=List.mem_map.1 hx;exact (fs i (by have:=List.mem_range.1 hi;omega)).2.2.2.1
   ·obtain ⟨i,hi,rfl⟩:=List.mem_map.1 hx;have hil:=List.mem_range.1 hi
    rcases (fs i (by omega)).2.2.2.2 with h|⟨n,hn,h⟩
    ·omega
    ·have:=hwi i hil n hn;omega
end
section
open Go.ChangeShapes Go.WideShapes Go.ChangeAt Go.RowKit Go.Lib Go.Deep Go.Joins
def zOI (k:Ky):Prop:=k.1.size<=maxLen/\k.2.size<=maxLen
theorem Tryz.cellsWInt:Tryz.prog.cellsOf 3=1:=by kernel_rfl
theorem Tryz.cellsWStr:Tryz.prog.cellsOf 9=1:=by kernel_rfl
theorem Tryz.cellsWU64:Tryz.prog.cellsOf 40=1:=by kernel_rfl
theorem Tryz.cellsWBool:Tryz.prog.cellsOf 4=1:=by kernel_rfl
theorem Tryz.cellsWFs:Tryz.prog.cellsOf 37=1:=by kernel_rfl
theorem Tryz.cellsWTs:Tryz.prog.cellsOf 39=1:=by kernel_rfl
theorem Tryz.cellsWKey:Tryz.prog.cellsOf 36=2:=by kernel_rfl
theorem Tryz.cellsWTm:Tryz.prog.cellsOf 49=3:=by kernel_rfl
theorem Tryz.bytesWTm:Tryz.prog.bytesOf 49=40:=by kernel_rfl
theorem qF {H:Type} (d:DataW H):1<=Rows.uptoBulk d:=by
 cases d with
 | lit l=>cases l<;>simp [Rows.uptoBulk]
 | nil=>simp [Rows.uptoBulk]
 | ptr d=>simp [Rows.uptoBulk]
 | slice elems spare=>simp [Rows.uptoBulk]
 | agg parts=>simp [Rows.uptoBulk]
 | iface t d=>simp [Rows.uptoBulk]
 | map entries=>simp [Rows.uptoBulk]
 | held h=>simp [Rows.uptoBulk]
theorem zCe {H:Type} {d:DataW H} {l:List (DataW H)} (h:d∈l):Rows.uptoBulk d<=Rows.uptoBulkAll l:=by
 induction l with
 | nil=>cases h
 | cons x r ih =>
  simp only [Rows.uptoBulkAll]
  rcases List.mem_cons.1 h with rfl|h
  ·omega
  ·have:=ih h;omega
theorem zC8 {H:Type} (l:List (DataW H)):l.length<=Rows.uptoBulkAll l:=by
 induction l with
 | nil=>simp [Rows.uptoBulkAll]
 | cons x r ih=>have:=qF x;simp only [Rows.uptoBulkAll,List.length_cons];omega
theorem zCp {α:Type} [Inhabited α] (K:zE α) {S:TypeId} {bytes:Nat} (hS:Tryz.prog.underlying S=some (.slice K.T)) (hk:Tryz.prog.cellsOf K.T=K.k) (hby:Tryz.prog.bytesOf K.T=bytes)
  {H:Type} (Ok:α->DataW H->Prop) {enc:TypeId × Value->H} {W:World} {fuel:Nat} {v:Value} {dd:DataW H} {p:List MemPlace}
  (each1:∀(n:Nat) (cs:List Value) (x:DataW H × List MemPlace),DataW.trod enc Tryz.prog W 0 (fun _=>true) true n K.T cs=some x->(∀n∈x.1.weights Tryz.prog K.T,n<=reachBytes)->∃b:α,cs=K.enc b/\Ok b x.1)
  (hf:DataW.trod enc Tryz.prog W 0 (fun _=>true) true fuel S [v]=some (dd,p)) (hZ:∀n∈dd.weights Tryz.prog S,n<=reachBytes) :
  ∃q:List α,K.Is W v q/\(∀x∈q,∃d,Rows.uptoBulk d<=Rows.uptoBulk dd/\Ok x d)/\q.length * bytes<=reachBytes/\q.length<=maxLen/\q.length<=Rows.uptoBulk dd:=by
 rcases open_slice hS hf with ⟨hcs,_⟩|⟨a,len,cap,m,n,D,Pl,hcs,_,hl,hm,hmm,hdat,hall⟩
 ·simp at hcs
  subst hcs;exact ⟨[],K.is_nil W,fun x hx=>by simp at hx,by simp,by simp,by simp⟩
 ·simp at hcs
  subst hcs;have hm':m=cap:=by simpa using hmm
  subst hm';rw [hk] at hall;have hdd:dd=.slice ((List.range len).map D) ((List.range (m-len)).map fun j=>D (len+j)):=congrArg Prod.fst hdat
  have hlb:len * bytes<=reachBytes:=by
   have:=hZ ((((List.range len).map D).length+((List.range (m-len)).map fun j=>D (len+j)).length) * Tryz.prog.bytesOf K.T) (by
    rw [hdd];simp only [DataW.weights,hS];exact List.mem_cons_self)
   rw [hby] at this;simp only [List.length_map,List.length_range] at this;exact Nat.le_trans (Nat.mul_le_mul_right _ (Nat.le_add_right _ _)) this
  have hbk:len<=Rows.uptoBulk dd:=by
   rw [hdd];simp only [Rows.uptoBulk];have:=zC8 ((List.range len).map D);simp only [List.length_map,List.length_range] at this;omega
  have hbi:∀i,i<len->Rows.uptoBulk (D i)<=Rows.uptoBulk dd:=fun i hi=>by
   rw [hdd];simp only [Rows.uptoBulk];have:=zCe (d:=D i) (l:=(List.range len).map D) (List.mem_map.2 ⟨i,List.mem_range.2 hi,rfl⟩);omega
  have each:∀i,i<len->∃t:α,(∀j u,(K.enc t)[j]? = some u->W.cell? (a.add (i * K.k+j))=some u)/\Ok t (D i):=by
   intro i hi;obtain ⟨cs',h1,h2⟩:=hall i (by omega);obtain ⟨_,hlen,hcell⟩:=World.cells?_some h1
   have hDi:∀n∈(D i).weights Tryz.prog K.T,n<=reachBytes:=fun n hn=>by
    refine hZ n ?_;rw [hdd];simp only [DataW.weights,hS];exact List.mem_cons_of_mem _ (List.mem_append.2 (Or.inl (nU hn (List.mem_map.2 ⟨i,List.mem_range.2 hi,rfl⟩))))
   obtain ⟨t,rfl,hok⟩:=each1 _ _ (D i,Pl i) h2 hDi;refine ⟨t,fun j u hu=>?_,hok⟩
   have hj:j<K.k:=by
    have:=(List.getElem?_eq_some_iff.1 hu).1
    rwa [K.len] at this
   have:=hcell j hj;rw [add_add] at this;rw [this];exact hu
  by_cases h0:len=0
  ·subst h0;exact ⟨[],⟨_,_,rfl,Or.inl rfl⟩,fun x hx=>by simp at hx,by simp,by simp,by simp⟩
  ·obtain ⟨f,hff⟩:=choose_lt each;have h1:0<(K.enc (f 0)).length:=by rw [K.len];exact K.pos
   have hc0:=(hff 0 (by omega)).1 0 _ (List.getElem?_eq_getElem h1);obtain ⟨b,off,spot⟩:=a;have hspot:spot=none:=by simpa [Addr.add] using World.cell?_spot hc0
   subst hspot;have hlen:((List.range len).map f).length=len:=by simp
   refine ⟨(List.range len).map f,⟨_,m,by rw [hlen],Or.inr ⟨b,off,rfl,fun i hi j u hu=>?_⟩⟩,fun x hx=>?_,by rw [hlen];exact hlb,by rw [hlen];omega,by rw [hlen];exact hbk⟩
   ·have hi0:i<len:=by simpa using hi
    have ef:((List.range len).map f)[i]'hi=f i:=by simp
    rw [ef] at hu;have:=(hff i hi0).1 j u hu;rw [_root_.Go.Proofs.YtjeogllmpjihaaaGreatDoor.addr_add] at this;rw [Nat.add_assoc];exact this
   ·obtain ⟨i,hi,rfl⟩:=List.mem_map.1 hx;exact ⟨D i,hbi i (List.mem_range.1 hi),(hff i (List.mem_range.1 hi)).2⟩
section
variable {H:Type} {enc:TypeId × Value→H} {W:World}
theorem zKF {n:Nat} {cs:List Value} {x:DataW H × List MemPlace} (h:DataW.trod enc Tryz.prog W 0 (fun _=>true) true n 36 cs=some x) :
  ∃k:Ky,cs=[.string k.1,.string k.2]/\zOI k:=by
 obtain ⟨xs,k,_,_,hlen,hxl,hf⟩:=DataW.trod_struct Tryz.underlying36 h;rw [Tryz.cellsWKey] at hlen
 match cs,hlen with
 | [v0,v1],_ =>
  match xs,hxl with
  | [y0,y1],_ =>
   have g0:=hf 0 _ rfl;have g1:=hf 1 _ rfl;simp [Tryz.cellsWStr] at g0 g1;obtain ⟨a,ea,_,ha⟩:=DataW.trod_string Tryz.underlying9 g0;obtain ⟨b,eb,_,hb⟩:=DataW.trod_string Tryz.underlying9 g1;simp only [List.cons.injEq,and_true] at ea eb;exact ⟨(a,b),by rw [ea,eb],ha,hb⟩
theorem zHd {n:Nat} {cs:List Value} {x:DataW H × List MemPlace} (h:DataW.trod enc Tryz.prog W 0 (fun _=>true) true n 49 cs=some x) :
  ∃t:Tm,cs=uC t/\t.1.size<=maxLen/\t.2.2.size<=maxLen/\-9223372036854775808<=t.2.1/\t.2.1<=9223372036854775807:=by
 obtain ⟨xs,k,_,_,hlen,hxl,hf⟩:=DataW.trod_struct Tryz.underlying49 h;rw [Tryz.cellsWTm] at hlen
 match cs,hlen with
 | [v0,v1,v2],_ =>
  match xs,hxl with
  | [y0,y1,y2],_ =>
   have g0:=hf 0 _ rfl;have g1:=hf 1 _ rfl;have g2:=hf 2 _ rfl;simp [Tryz.cellsWStr,Tryz.cellsWInt] at g0 g1 g2;obtain ⟨a,ea,_,ha⟩:=DataW.trod_string Tryz.underlying9 g0;obtain ⟨o,eo,_,ho⟩:=DataW.trod_int Tryz.underlying3 g1;obtain ⟨b,eb,_,hb⟩:=DataW.trod_string Tryz.underlying9 g2;simp only [List.cons.injEq,and_true] at ea eo eb
   have hw:-9223372036854775808<=o/\o<=9223372036854775807:=by
    have:=ho;simp [Lit.wf,IntKind.min,IntKind.max,IntKind.signed,IntKind.bits] at this;omega
   exact ⟨(a,o,b),by rw [ea,eo,eb];rfl,ha,hb,hw.1,hw.2⟩
theorem zEN {fuel:Nat} {v:Value} {dd:DataW H} {p:List MemPlace}
  (hf:DataW.trod enc Tryz.prog W 0 (fun _=>true) true fuel 39 [v]=some (dd,p)) (hZ:∀n∈dd.weights Tryz.prog 39,n<=reachBytes):∃q:List Tm,KM.Is W v q/\pY q:=by
 obtain ⟨q,h1,h2,_,h4,_⟩:=zCp KM Tryz.underlying39 Tryz.cellsWTm Tryz.bytesWTm (fun t _=>t.1.size<=maxLen/\t.2.2.size<=maxLen/\-9223372036854775808<=t.2.1/\t.2.1<=9223372036854775807) (fun n cs x h _=>zHd h) hf hZ;exact ⟨q,h1,h4,fun x hx=>(h2 x hx).choose_spec.2⟩
end
end
section
open Go.ChangeShapes Go.WideShapes Go.ChangeAt Go.RowKit Go.Lib Go.Deep
theorem Tryz.cellsByte:Tryz.prog.cellsOf 5=1:=by kernel_rfl
theorem zNZ:Tryz.prog.globalNamed "folio/value.plain" = some 3:=by kernel_rfl
theorem zNn:(Tryz.prog.globals[3]?).map (·.type)=some 209:=by kernel_rfl
theorem zNU:Tryz.prog.underlying 208=some (.array 2 5):=by kernel_rfl
theorem zOY:Tryz.prog.cellsOf 208=2:=by kernel_rfl
theorem zNf:Tryz.prog.cellsOf 209=26:=by kernel_rfl
def zCt:List (Int × Int):=[(97,122),(65,90),(48,57),(45,45),(46,46),(95,95),(124,124),(42,42),(64,64),(47,47),(58,58),(43,43),(44,44)]
theorem zGp:(Rows.laid_folio_value_plain:DataW Unit)=.agg (zCt.map fun p=>.agg [.lit (.int .u8 p.1),.lit (.int .u8 p.2)]):=rfl
theorem fJ {W:World} {f:Nat} {cs:List Value} {k:Int} {q:List MemPlace} (h:DataW.trod (fun _=>()) Tryz.prog W 0 (fun _=>true) false f 5 cs=some (.lit (.int .u8 k),q)):cs=[.int .u8 k]:=by
 obtain ⟨n,rfl,e,_⟩:=DataW.trod_int Tryz.underlying5 h
 cases e;rfl
theorem zHV {W:World} {f:Nat} {cs:List Value} {a b:Int} {q:List MemPlace} (hl:cs.length=2) (h:DataW.trod (fun _=>()) Tryz.prog W 0 (fun _=>true) false f 208 cs=some (.agg [.lit (.int .u8 a),.lit (.int .u8 b)],q)):cs=[.int .u8 a,.int .u8 b]:=by
 match cs,hl with
 | [x,y],_ =>
  obtain ⟨f0,d0,q0,e0,h0⟩:=array_elem zNU h 0 (by decide);obtain ⟨f1,d1,q1,e1,h1⟩:=array_elem zNU h 1 (by decide);rw [Tryz.cellsByte] at h0 h1;simp only [List.getElem?_cons_zero,List.getElem?_cons_succ,Option.some.injEq] at e0 e1;subst e0 e1;have k0:=fJ h0;have k1:=fJ h1;simp at k0 k1;rw [k0,k1]
theorem zCC:∀(n:Nat) (cs:List Value) (ps:List (Int × Int)),cs.length=n * 2->ps.length=n->(∀i (h:i<ps.length),(cs.drop (i * 2)).take 2=[.int .u8 ps[i].1,.int .u8 ps[i].2])->cs=ps.flatMap fun p=>[.int .u8 p.1,.int .u8 p.2]
 | 0,cs,ps,hc,hp,_=>by
  rw [List.length_eq_zero_iff.1 (by omega:cs.length=0),List.length_eq_zero_iff.1 hp];rfl
 | n+1,cs,ps,hc,hp,h=>by
  match ps,hp,cs,hc with
  | _::_,_,[],hc=>simp at hc
  | _::_,_,[_],hc=>simp at hc;omega
  | p::ps,hp,x::y::cs,hc =>
   have h0:=h 0 (by simp);simp at h0
   have:=zCC n cs ps (by simp at hc;omega) (by simpa using hp) (fun i hi=>by
    have:=h (i+1) (by simp;omega);rw [show (i+1) * 2=i * 2+1+1 by omega] at this
    simpa using this)
   rw [List.flatMap_cons,<-this,h0.1,h0.2];rfl
end
section
open Go.ChangeShapes Go.WideShapes Go.ChangeAt Go.RowKit Go.Lib Go.Deep Go.Joins
theorem Tryz.cellsEd:Tryz.prog.cellsOf 47=3:=by kernel_rfl
theorem Tryz.cellsEdI:Tryz.prog.cellsOf 3=1:=by kernel_rfl
theorem zI4 {H:Type} {enc:TypeId × Value->H} {W:World} {n:Nat} {cs:List Value} {x:DataW H × List MemPlace} (h:DataW.trod enc Tryz.prog W 0 (fun _=>true) true n 47 cs=some x) :
  ∃t:Ed,cs=kV t/\t.2.1.size<=maxLen/\t.2.2.size<=maxLen/\-9223372036854775808<=t.1/\t.1<=9223372036854775807:=by
 obtain ⟨xs,k,_,_,hlen,hxl,hf⟩:=DataW.trod_struct Tryz.underlying47 h;rw [Tryz.cellsEd] at hlen
 match cs,hlen with
 | [v0,v1,v2],_ =>
  match xs,hxl with
  | [y0,y1,y2],_ =>
   have g0:=hf 0 _ rfl;have g1:=hf 1 _ rfl;have g2:=hf 2 _ rfl;simp [Tryz.cellsStr,Tryz.cellsEdI] at g0 g1 g2;obtain ⟨o,eo,_,ho⟩:=DataW.trod_int Tryz.underlying3 g0;obtain ⟨a,ea,_,ha⟩:=DataW.trod_string Tryz.underlying9 g1;obtain ⟨b,eb,_,hb⟩:=DataW.trod_string Tryz.underlying9 g2;simp only [List.cons.injEq,and_true] at ea eo eb
   have hw:-9223372036854775808<=o/\o<=9223372036854775807:=by
    have:=ho;simp [Lit.wf,IntKind.min,IntKind.max,IntKind.signed,IntKind.bits] at this;omega
   exact ⟨(o,a,b),by rw [ea,eo,eb];rfl,ha,hb,hw.1,hw.2⟩
end
section
open Go.RowKit Go.Lib
def wtJ (x:Ex):Nat:=x.vo.length+x.eo.length+x.po.length+6
end
section
open Go.ChangeShapes Go.WideShapes Go.ChangeAt Go.RowKit Go.Lib Go.Deep Go.Joins
theorem Tryz.cellsOEs:Tryz.prog.cellsOf 38=1:=by kernel_rfl
theorem Tryz.cellsOEn:Tryz.prog.cellsOf 42=10:=by kernel_rfl
theorem Tryz.cellsOEns:Tryz.prog.cellsOf 23=1:=by kernel_rfl
theorem Tryz.cellsORq:Tryz.prog.cellsOf 25=2:=by kernel_rfl
theorem Tryz.bytesOEd:Tryz.prog.bytesOf 47=40:=by kernel_rfl
theorem gR {t:Int} (h:Lit.wf (.int .i64 t)=true):-9223372036854775808<=t/\t<=9223372036854775807:=by
 simp [Lit.wf,IntKind.min,IntKind.max,IntKind.signed,IntKind.bits] at h
 omega
theorem zHv {t:Int} (h:Lit.wf (.int .u64 t)=true):0<=t/\t<=18446744073709551615:=by
 simp [Lit.wf,IntKind.min,IntKind.max,IntKind.signed,IntKind.bits] at h
 omega
section
variable {H:Type} {enc:TypeId × Value→H} {W:World}
theorem mA {S e:TypeId} (hS:Tryz.prog.underlying S=some (.slice e)) {fuel:Nat} {p:Option Addr} {n cap:Nat} {dd:DataW H} {pl:List MemPlace} (h:DataW.trod enc Tryz.prog W 0 (fun _=>true) true fuel S [.slice p n cap]=some (dd,pl)):n<=cap/\n<=Rows.uptoBulk dd:=by
 rcases open_slice hS h with ⟨hcs,_⟩|⟨a,len,c,m,k,D,Pl,hcs,_,hl,_,_,hdat,_⟩
 ·simp at hcs
  omega
 ·simp at hcs
  obtain ⟨_,rfl,rfl⟩:=hcs;refine ⟨hl,?_⟩;rw [show dd=_ from congrArg Prod.fst hdat];simp only [Rows.uptoBulk];have:=zC8 ((List.range n).map D);simp only [List.length_map,List.length_range] at this;omega
theorem zJv {α:Type} [Inhabited α] (K:zE α) {S:TypeId} (hS:Tryz.prog.underlying S=some (.slice K.T)) (hk:Tryz.prog.cellsOf K.T=K.k)
  (Ok:α->DataW H->Prop) (wt:α->Nat) (hwt:∀b d,Ok b d->wt b<=Rows.uptoBulk d) {fuel:Nat} {v:Value} {dd:DataW H} {p:List MemPlace}
  (each1:∀(n:Nat) (cs:List Value) (x:DataW H × List MemPlace),DataW.trod enc Tryz.prog W 0 (fun _=>true) true n K.T cs=some x->(∀n∈x.1.weights Tryz.prog K.T,n<=reachBytes)->∃b:α,cs=K.enc b/\Ok b x.1)
  (hf:DataW.trod enc Tryz.prog W 0 (fun _=>true) true fuel S [v]=some (dd,p)) (hZ:∀n∈dd.weights Tryz.prog S,n<=reachBytes) :
  ∃q:List α,K.Is W v q/\(∀x∈q,∃d,Rows.uptoBulk d<=Rows.uptoBulk dd/\Ok x d)/\(q.map wt).sum<=Rows.uptoBulk dd:=by
 rcases open_slice hS hf with ⟨hcs,_⟩|⟨a,len,cap,m,n,D,Pl,hcs,_,hl,hm,hmm,hdat,hall⟩
 ·simp at hcs
  subst hcs;exact ⟨[],K.is_nil W,fun x hx=>by simp at hx,by simp⟩
 ·simp at hcs
  subst hcs;have hm':m=cap:=by simpa using hmm
  subst hm';rw [hk] at hall;have hdd:dd=.slice ((List.range len).map D) ((List.range (m-len)).map fun j=>D (len+j)):=congrArg Prod.fst hdat
  have hbi:∀i,i<len->Rows.uptoBulk (D i)<=Rows.uptoBulk dd:=fun i hi=>by
   rw [hdd];simp only [Rows.uptoBulk];have:=zCe (d:=D i) (l:=(List.range len).map D) (List.mem_map.2 ⟨i,List.mem_range.2 hi,rfl⟩);omega
  have each:∀i,i<len->∃t:α,(∀j u,(K.enc t)[j]? = some u->W.cell? (a.add (i * K.k+j))=some u)/\Ok t (D i):=by
   intro i hi;obtain ⟨cs',h1,h2⟩:=hall i (by omega);obtain ⟨_,hlen,hcell⟩:=World.cells?_some h1
   have hDi:∀n∈(D i).weights Tryz.prog K.T,n<=reachBytes:=fun n hn=>by
    refine hZ n ?_;rw [hdd];simp only [DataW.weights,hS];exact List.mem_cons_of_mem _ (List.mem_append.2 (Or.inl (nU hn (List.mem_map.2 ⟨i,List.mem_range.2 hi,rfl⟩))))
   obtain ⟨t,rfl,hok⟩:=each1 _ _ (D i,Pl i) h2 hDi;refine ⟨t,fun j u hu=>?_,hok⟩
   have hj:j<K.k:=by
    have:=(List.getElem?_eq_some_iff.1 hu).1
    rwa [K.len] at this
   have:=hcell j hj;rw [add_add] at this;rw [this];exact hu
  by_cases h0:len=0
  ·subst h0;exact ⟨[],⟨_,_,rfl,Or.inl rfl⟩,fun x hx=>by simp at hx,by simp⟩
  ·obtain ⟨f,hff⟩:=choose_lt each;have h1:0<(K.enc (f 0)).length:=by rw [K.len];exact K.pos
   have hc0:=(hff 0 (by omega)).1 0 _ (List.getElem?_eq_getElem h1);obtain ⟨b,off,spot⟩:=a;have hspot:spot=none:=by simpa [Addr.add] using World.cell?_spot hc0
   subst hspot;have hlen:((List.range len).map f).length=len:=by simp
   refine ⟨(List.range len).map f,⟨_,m,by rw [hlen],Or.inr ⟨b,off,rfl,fun i hi j u hu=>?_⟩⟩,fun x hx=>?_,?_⟩
   ·have hi0:i<len:=by simpa using hi
    have ef:((List.range len).map f)[i]'hi=f i:=by simp
    rw [ef] at hu;have:=(hff i hi0).1 j u hu;rw [_root_.Go.Proofs.YtjeogllmpjihaaaGreatDoor.addr_add] at this;rw [Nat.add_assoc];exact this
   ·obtain ⟨i,hi,rfl⟩:=List.mem_map.1 hx;exact ⟨D i,hbi i (List.mem_range.1 hi),(hff i (List.mem_range.1 hi)).2⟩
   ·have key:∀l:List Nat,(∀i∈l,i<len)->((l.map f).map wt).sum<=Rows.uptoBulkAll (l.map D):=by
     intro l
     induction l with
     | nil=>intro _;simp
     | cons i l ih =>
      intro hl;have h1:=ih fun j hj=>hl j (by simp [hj])
      have h2:=hwt _ _ (hff i (hl i (by simp))).2;simp only [List.map_cons,List.sum_cons,Rows.uptoBulkAll];omega
    have:=key (List.range len) fun i hi=>List.mem_range.1 hi
    rw [hdd];simp only [Rows.uptoBulk];omega
theorem zJ4 {fuel:Nat} {v:Value} {dd:DataW H} {p:List MemPlace}
  (hf:DataW.trod enc Tryz.prog W 0 (fun _=>true) true fuel 38 [v]=some (dd,p)) (hZ:∀n∈dd.weights Tryz.prog 38,n<=reachBytes):∃q:List Ed,KE.Is W v q/\jF q:=by
 obtain ⟨q,h1,h2,_,h4,_⟩:=zCp KE Tryz.underlying38 Tryz.cellsEd Tryz.bytesOEd (fun t _=>t.2.1.size<=maxLen/\t.2.2.size<=maxLen/\-9223372036854775808<=t.1/\t.1<=9223372036854775807) (fun n cs x h _=>zI4 h) hf hZ;exact ⟨q,h1,h4,fun x hx=>(h2 x hx).choose_spec.2⟩
theorem zKk {n:Nat} {cs:List Value} {x:DataW H × List MemPlace} (h:DataW.trod enc Tryz.prog W 0 (fun _=>true) true n 42 cs=some x) (hZ:∀n∈x.1.weights Tryz.prog 42,n≤reachBytes) :
  ∃b:Ex,cs=yZ b∧(uJ W b∧zCD b.vo∧wtJ b≤Rows.uptoBulk x.1):=by
 obtain ⟨xs,k,_,hx,hlen,hxl,hf⟩:=DataW.trod_struct Tryz.underlying42 h;rw [Tryz.cellsOEn] at hlen
 match cs,hlen with
 | [v0,v1,v2,v3,v4,v5,v6,v7,v8,v9],_ =>
  match xs,hxl with
  | [y0,y1,y2,y3,y4,y5,y6,y7,y8],_ =>
   have g0:=hf 0 _ rfl;have g1:=hf 1 _ rfl;have g2:=hf 2 _ rfl;have g3:=hf 3 _ rfl;have g4:=hf 4 _ rfl;have g5:=hf 5 _ rfl;have g6:=hf 6 _ rfl;have g7:=hf 7 _ rfl;have g8:=hf 8 _ rfl;simp [Tryz.cellsWInt,Tryz.cellsWStr,Tryz.cellsWKey,Tryz.cellsWFs,Tryz.cellsOEs,Tryz.cellsWTs,Tryz.cellsWU64] at g0 g1 g2 g3 g4 g5 g6 g7 g8;obtain ⟨kd,ekd,_,hkd⟩:=DataW.trod_int Tryz.underlying3 g0;obtain ⟨tm,etm,_,htm⟩:=DataW.trod_string Tryz.underlying9 g1;obtain ⟨ky,eky,hky⟩:=zKF g2;obtain ⟨fi,efi,_,hfi⟩:=DataW.trod_int Tryz.underlying3 g3
   have hz4:∀n∈y4.1.weights Tryz.prog 37,n≤reachBytes:=fun n hn=>hZ n (by
    rw [hx];simp only [List.map_cons,List.map_nil,DataW.weights,Tryz.underlying42];exact List.mem_append.2 (Or.inr (List.mem_append.2 (Or.inr (List.mem_append.2 (Or.inr (List.mem_append.2 (Or.inr (List.mem_append.2 (Or.inl hn))))))))))
   have hz5:∀n∈y5.1.weights Tryz.prog 38,n≤reachBytes:=fun n hn=>hZ n (by
    rw [hx];simp only [List.map_cons,List.map_nil,DataW.weights,Tryz.underlying42];exact List.mem_append.2 (Or.inr (List.mem_append.2 (Or.inr (List.mem_append.2 (Or.inr (List.mem_append.2 (Or.inr (List.mem_append.2 (Or.inr (List.mem_append.2 (Or.inl hn))))))))))))
   have hz6:∀n∈y6.1.weights Tryz.prog 39,n≤reachBytes:=fun n hn=>hZ n (by
    rw [hx];simp only [List.map_cons,List.map_nil,DataW.weights,Tryz.underlying42];exact List.mem_append.2 (Or.inr (List.mem_append.2 (Or.inr (List.mem_append.2 (Or.inr (List.mem_append.2 (Or.inr (List.mem_append.2 (Or.inr (List.mem_append.2 (Or.inr (List.mem_append.2 (Or.inl hn))))))))))))))
   obtain ⟨d,hd,hfd,hdc⟩:=zGX (dd:=y4.1) (p:=y4.2) g4 hz4;obtain ⟨l,hl,hfl⟩:=zJ4 (dd:=y5.1) (p:=y5.2) g5 hz5;obtain ⟨t,ht,hft⟩:=zEN (dd:=y6.1) (p:=y6.2) g6 hz6;obtain ⟨st,est,_,hst⟩:=DataW.trod_int Tryz.underlying40 g7;obtain ⟨nn,enn,_,hnn⟩:=DataW.trod_int Tryz.underlying3 g8;simp only [List.cons.injEq,and_true] at ekd etm eky efi est enn;obtain ⟨vp,vc,rfl,_⟩:=id hd;obtain ⟨ep,ec,rfl,_⟩:=id hl;obtain ⟨pp,pc,rfl,_⟩:=id ht;have b4:=(mA Tryz.underlying37 (dd:=y4.1) (pl:=y4.2) g4).2;have b5:=(mA Tryz.underlying38 (dd:=y5.1) (pl:=y5.2) g5).2;have b6:=(mA Tryz.underlying39 (dd:=y6.1) (pl:=y6.2) g6).2;refine ⟨⟨kd,tm,ky.1,ky.2,fi,vp,vc,d,ep,ec,l,pp,pc,t,st,nn⟩,?_,⟨hd,hfd,hl,hfl,ht,hft,htm,hky.1,hky.2,(gR hkd).1,(gR hkd).2,(gR hfi).1,(gR hfi).2,(zHv hst).1,(zHv hst).2,(gR hnn).1,(gR hnn).2⟩,hdc,?_⟩
   ·rw [ekd,etm,eky.1,eky.2,efi,est,enn];rfl
   ·rw [hx];have q0:=qF y0.1;have q1:=qF y1.1;have q2:=qF y2.1;have q3:=qF y3.1;have q7:=qF y7.1;have q8:=qF y8.1;simp only [List.map_cons,List.map_nil,Rows.uptoBulk,Rows.uptoBulkAll];show d.length+l.length+t.length+6≤_;omega
structure zOd (W:World) (v:Value) (d:List Ex) (n:Nat):Prop where
 rq:nP W v d
 cp:∀x∈d,zCD x.vo/\x.eo.length<=1048576/\x.po.length<=1048576
 wt:(d.map wtJ).sum<=n
 few:d.length<=1048576
theorem zLj {b0:Nat} {v:Value} {dd:DataW H} {p:List MemPlace} (hv:Value.okWide Tryz.prog W .any b0 25 v) (h:DataW.Trod enc Tryz.prog W 0 (fun _=>true) true 25 v dd p) (hZ:∀n∈dd.weights Tryz.prog 25,n≤reachBytes) (hb:Rows.uptoBulk dd≤1048576) :
  ∃(o:Bool) (a:Option Addr) (cap:Nat) (d:List Ex),v=.agg #[.bool o,.slice a d.length cap]∧d.length≤cap∧zOd W (.slice a d.length cap) d 1048576:=by
 obtain ⟨cs,rfl,hsz⟩:=okWide_struct Tryz.underlying25 hv;obtain ⟨fuel,hf0⟩:=h;have hf1:DataW.trod enc Tryz.prog W 0 (fun _=>true) true fuel 25 cs.toList=some (dd,p):=by simpa [Value.cells] using hf0
 obtain ⟨xs,k,_,hx,hlen,hxl,hf⟩:=DataW.trod_struct Tryz.underlying25 hf1;rw [Tryz.cellsORq] at hlen
 obtain ⟨v0,v1,hcs⟩:∃v0 v1,cs.toList=[v0,v1]:=by
  match hc:cs.toList,hlen with
  | [v0,v1],_=>exact ⟨v0,v1,rfl⟩
 rw [hcs] at hf
 match xs,hxl with
 | [y0,y1],_ =>
  have g0:=hf 0 _ rfl;have g1:=hf 1 _ rfl;simp [Tryz.cellsWBool,Tryz.cellsOEns] at g0 g1;have hdd:dd=.agg ([y0,y1].map Prod.fst):=congrArg Prod.fst hx;obtain ⟨o,eo,_⟩:=DataW.trod_bool Tryz.underlying4 g0
  have hz1:∀n∈y1.1.weights Tryz.prog 23,n≤reachBytes:=fun n hn=>hZ n (by
   rw [hdd];simp only [List.map_cons,List.map_nil,DataW.weights,Tryz.underlying25];exact List.mem_append.2 (Or.inr (List.mem_append.2 (Or.inl hn))))
  have hb1:Rows.uptoBulk y1.1≤1048576:=by
   rw [hdd] at hb;simp only [List.map_cons,List.map_nil,Rows.uptoBulk,Rows.uptoBulkAll] at hb;omega
  haveI:Inhabited Ex:=⟨vG 0⟩
  obtain ⟨d,hd1,hd2,hd3⟩:=zJv KEx Tryz.underlying23 Tryz.cellsOEn (fun b d=>uJ W b∧zCD b.vo∧wtJ b≤Rows.uptoBulk d) wtJ (fun b d h=>h.2.2) (fun n cs x h hz=>zKk h hz) (dd:=y1.1) (p:=y1.2) g1 hz1;obtain ⟨a,cap,rfl,_⟩:=id hd1;obtain ⟨hcap,hfew⟩:=mA Tryz.underlying23 (dd:=y1.1) (pl:=y1.2) g1;simp only [List.cons.injEq,and_true] at eo;refine ⟨o,a,cap,d,?_,hcap,⟨⟨hd1,fun x hx=>(hd2 x hx).choose_spec.2.1,by omega⟩,fun x hx=>?_,by omega,by omega⟩⟩
  ·have:cs=#[.bool o,.slice a d.length cap]:=Array.ext' (by rw [hcs,eo]);rw [this]
  ·obtain ⟨q,hq1,_,hq2,hq3⟩:=hd2 x hx;unfold wtJ at hq3;exact ⟨hq2,by omega,by omega⟩
end
end
section
open Go.ChangeShapes Go.WideShapes Go.ChangeAt Go.RowKit Go.Lib
def uB:List (String × DataW Unit):=[("math/bits.deBruijn32tab",Rows.laid_math_bits_deBruijn32tab),("math/bits.deBruijn64tab",Rows.laid_math_bits_deBruijn64tab),("internal/strconv.uint64pow10",Rows.laid_internal_strconv_uint64pow10),("unicode/utf8.acceptRanges",Rows.laid_unicode_utf8_acceptRanges),("strconv.ErrRange",Rows.laid_strconv_ErrRange),("strconv.ErrSyntax",Rows.laid_strconv_ErrSyntax),("folio/value.plain",Rows.laid_folio_value_plain),("unicode/utf8.first",Rows.laid_unicode_utf8_first)]
theorem zA4 {W:World} (h:laidMet Tryz.prog uB W):zY W:=by
 obtain ⟨g,t,cs,fuel,p,hg,ht,hv,hd⟩:=laidMet.reads h (n:= "folio/value.plain") (d:=Rows.laid_folio_value_plain) (.tail _ (.tail _ (.tail _ (.tail _ (.tail _ (.tail _ (.head _)))))));obtain rfl:=Option.some.inj (zNZ.symm.trans hg);obtain rfl:=Option.some.inj (zNn.symm.trans ht);rw [zGp] at hd;obtain ⟨_,_,_,_,hlen,_,_⟩:=DataW.trod_array Tryz.underlying209 hd;rw [zNf] at hlen
 have hcs:=zCC 13 cs.toList zCt (by simpa using hlen) rfl (fun i hi=>by
  have hi13:i<13:=hi;obtain ⟨f,d,q,e,hx⟩:=array_elem Tryz.underlying209 hd i hi13;rw [zOY] at hx;rw [List.getElem?_map,List.getElem?_eq_getElem hi] at e;simp only [Option.map_some,Option.some.injEq] at e;subst e;exact zHV (by rw [List.length_take,List.length_drop];rw [hlen];omega) hx)
 have hv':W.var? Tryz.prog "folio/value.plain" = some cs:=hv;simp only [World.var?,hg,Option.bind_some] at hv'
 split at hv'
 ·rename_i c t' fr hh
  cases hv';refine ⟨t',fr,?_⟩;rw [hh];have:cs=tT:=Array.toList_inj.1 (by rw [hcs];rfl);rw [this]
 ·cases hv'
theorem zO8:Tryz.prog.globalNamed "internal/strconv.uint64pow10" = some 4:=by kernel_rfl
theorem zOf:(Tryz.prog.globals[4]?).map (·.type)=some 211:=by kernel_rfl
theorem zOh:Tryz.prog.cellsOf 211=20:=by kernel_rfl
theorem zOb:Tryz.prog.cellsOf 40=1:=by kernel_rfl
theorem zOa:Tryz.prog.underlying 211=some (.array 20 40):=by kernel_rfl
theorem zOc:Tryz.prog.underlying 40=some (.int .u64):=by kernel_rfl
theorem zEI {W:World} (h:laidMet Tryz.prog uB W):TabIs Tryz.prog W "internal/strconv.uint64pow10" .u64 pow10Tab :=
 tabIs_of_head zO8 zOf zOa zOc zOb zOh (show laidMet Tryz.prog (("internal/strconv.uint64pow10",tabData .u64 pow10Tab)::_) W from h.tail.tail)
theorem zOZ:Tryz.prog.globalNamed "strconv.ErrSyntax" = some 5:=by kernel_rfl
theorem zO7:(Tryz.prog.globals[5]?).map (·.type)=some 94:=by kernel_rfl
theorem zOJ:Tryz.prog.globalNamed "strconv.ErrRange" = some 6:=by kernel_rfl
theorem zOg:(Tryz.prog.globals[6]?).map (·.type)=some 94:=by kernel_rfl
theorem cEs:Tryz.prog.cellsOf 240=1:=by kernel_rfl
theorem cSt:Tryz.prog.cellsOf 9=1:=by kernel_rfl
theorem zNS : "*" ++ "errors.errorString" = "*errors.errorString":=by decide
theorem zOQ (u:TypeId) (h:Tryz.prog.typeName? 3 u=some "*errors.errorString"):u=238 :=
 typeName_ptr_named (nm:= "errors.errorString") (by rw [zNS];kernel_rfl) (by kernel_rfl) (by decide) u (by rw [zNS];exact h)
theorem zFX {W:World} (h:laidMet Tryz.prog uB W):zBd 5 W:=by
 obtain ⟨a,s,hv,_⟩:=laid_sentinel (h.tail.tail.tail.tail.tail) zOZ zO7 Tryz.underlying94 zOQ Tryz.underlying238 Tryz.underlying240 rfl rfl Tryz.underlying9 cEs cSt;exact ⟨_,by simpa using World.var?_cell zOZ hv 0,.inr ⟨_,_,rfl⟩⟩
theorem zF9 {W:World} (h:laidMet Tryz.prog uB W):zBd 6 W:=by
 obtain ⟨a,s,hv,_⟩:=laid_sentinel (h.tail.tail.tail.tail) zOJ zOg Tryz.underlying94 zOQ Tryz.underlying238 Tryz.underlying240 rfl rfl Tryz.underlying9 cEs cSt;exact ⟨_,by simpa using World.var?_cell zOJ hv 0,.inr ⟨_,_,rfl⟩⟩
end
section
open Go.ChangeShapes Go.WideShapes Go.ChangeAt Go.RowKit
theorem zBg {W:World} (h:laidMetH Tryz.prog uB W) (hs:W.ShapedOpen Tryz.prog):wQ W:=by
 rw [MakeChecks.laidMetH_plain _ _ _ (by kernel_rfl)] at h;exact ⟨zA4 h,cell_of_shapedOpen_int (zero:=#[ii 0]) (t:=3) hs (of_decide_eq_true (by kernel_rfl)) (by kernel_rfl) rfl (by kernel_rfl) (by kernel_rfl) Tryz.underlying3,zEI h,zFX h,zF9 h⟩
end
end Go.Proofs.YtjeogllmpjihaaaGreatDoor
