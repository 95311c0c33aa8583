/- A part of the proof. -/
import Derived.Test.YtkhljboeffhciaaGreatPf
import Derived.JoinedOf
set_option maxHeartbeats 40000000
set_option maxRecDepth 100000
set_option linter.unusedSimpArgs false
open Go.RowKit Go.Proofs.Tryz
namespace Go.Proofs.YtkhljboeffhciaaGreat
theorem wY.box {d:World} {Z:List (Nat × Obj)} {e h:Nat} {b:List Nat} {S:Sv} {w w':World} {B:Nat} (x:Sto d Z e h b S w) (g:Below w.heap.size w w') (f:w.heap.size=B):wY d Z e h b S B w' w':=fun i a=>x.pins g i fun p c=>⟨by rw [f];exact (a p c).1,(a p c).2⟩
theorem zGi {A B:Nat} {w:World} {n:Int} (h:w.heap[B]? = some (.cells #[.int .i64 n] 3 (0,0))) (a:A<=B):KIn.Own A w (.slice (some ⟨B,0,none⟩) 1 1) [n]:=zC.own_mk rfl a h (zaL _) (by unfold maxLen;decide) rfl rfl
theorem zL0 {A B:Nat} {w:World} {n m k:Int} (h:w.heap[B]? = some (.cells #[.int .i64 n,.int .i64 m,.int .i64 k] 3 (0,0))) (a:A<=B):KIn.Own A w (.slice (some ⟨B,0,none⟩) 3 3) [n,m,k]:=zC.own_mk rfl a h (zaL _) (by unfold maxLen;decide) rfl rfl
theorem zO9 {m:World} {ZU Z:List (Nat × Obj)} {L h R:Nat} {y:List Nat} {r:Rn} {p:Option Addr} {c:Nat} {l:List Nat} {w X C:World} {Q g d u:Nat} {t:Array Value} (x:nE m ZU L h R y r Z (.slice p l.length c) l w) (hQ:w.heap.size=Q) (P:Sto m (doB Q t++Z) (L+1) h (y++[g]) (vG r.S) X) (Y:yG KTx m.heap.size m (.slice (some ⟨d,0,none⟩) (l.length+1) u) (l++[g]) C) (r2:X.grownBy C (Value.slice p l.length c).ownBlock) (I:(Value.slice p l.length c).ownBlock=some d∨d=X.heap.size) (aw:Q+2<=X.heap.size):(C.heap[R]? = some (.cells #[.pointer (some ⟨h,0,none⟩),.slice p l.length c] 34 (0,0))/\C.heap[Q+1]? = some (.cells zOt 52 (0,0))) /\
  ∀n,Fr (fun b=>b=R) C n->n.heap[R]? = some (.cells #[.pointer (some ⟨h,0,none⟩),.slice (some ⟨d,0,none⟩) (l.length+1) u] 34 (0,0))->(CC 12 #[.pointer (some ⟨g,0,none⟩)] n fun e w'=>e=.returned (.int .u64 r.S.last)/\w'=n)/\n.heap[Q+1]? = some (.cells zOt 52 (0,0)) /\
  ∀z,Fr (fun b=>b=Q+1) n z->nT m ZU (L+1) h R y ({ stamp:=r.S.last },⟨vG r.S,r.ids++[r.S.txs.length]⟩) w (.returned (.agg (zX { st:=r.S.last }).toArray)) z:=by
 have am:=(zaW (show C.ownsRow m.heap.size KTx.T KTx.k _ _ (KTx.cells (l++[g])) from Y.own) d rfl)
 obtain ⟨o,F⟩:=P.grown2 (v:=.slice p l.length c) (fun k A=>⟨by
  have:=zaW (show w.ownsRow m.heap.size KTx.T KTx.k _ _ (KTx.cells l) from x.row.own) k A
  exact this.1,by
  obtain ⟨b,hb⟩:=(x.own k A).2.1
  exact ⟨b,zaG (xaf hb)⟩⟩) r2 I am.2
 have ax:=x.lt
 have J:∀q∈doB Q t,q∈(d,o)::(doB Q t++Z).filter (fun f=>!decide ((Value.slice p l.length c).ownBlock=some f.1)):=fun q a=>xay _ (List.mem_filter.2 ⟨zaG (xac a),by
  have D:=(zBt a).1
  simp only [xbA,xa0]
  intro e
  have:=x.olt e
  omega⟩)
 have ad:(R,Obj.cells #[.pointer (some ⟨h,0,none⟩),.slice p l.length c] 34 (0,0))∈(d,o)::(doB Q t++Z).filter (fun f=>!decide ((Value.slice p l.length c).ownBlock=some f.1)):=xay _ (List.mem_filter.2 ⟨zaG (xaf x.box),by
  simp only [xbA,xa0]
  intro e
  exact (x.own _ e).1 rfl⟩)
 have af:d≠R:=by
  rcases I with e|e
  ·exact (x.own _ e).1
  have:=P.low (zaG (xaf x.box))
  simp only at this
  omega
 refine ⟨⟨F.got ad,F.got (J _ (by unfold doB;simp))⟩,fun n O h6=>?_⟩
 have B:=F.turn ad O x.base h6
 have ac:=x.sto.len
 have ht:(vG r.S).txs[y.length]? = some (jA r.S.last):=by
  rw [ac]
  unfold vG
  simp
 have ah:n.heap[Q+1]? = some (.cells zOt 52 (0,0)):=(O.block _ (by have:=(Array.getElem?_eq_some_iff.1 (F.got (J (Q+1,.cells zOt 52 (0,0)) (by unfold doB;simp)))).1;exact this) (by omega)).trans (F.got (J _ (by unfold doB;simp)))
 refine ⟨zC1 B (i:=y.length) (g:=g) (by simp) ht,ah,fun z H=>?_⟩
 have N:∀q,(q∈doB Q t∨(q∈Z/\(Value.slice p l.length c).ownBlock≠some q.1))->q.1≠R->q∈(R,Obj.cells #[.pointer (some ⟨h,0,none⟩),.slice (some ⟨d,0,none⟩) (l.length+1) u] 34 (0,0))::((d,o)::(doB Q t++Z).filter (fun f=>!decide ((Value.slice p l.length c).ownBlock=some f.1))).filter (fun f=>!decide (f.1=R)):=fun q a V=>by
  refine xay _ (List.mem_filter.2 ⟨?_,by simpa using V⟩)
  rcases a with a|⟨a,au⟩
  ·exact J q a
  exact xay _ (List.mem_filter.2 ⟨zaG (xaf a),by simpa using au⟩)
 have U:(d,o)∈(R,Obj.cells #[.pointer (some ⟨h,0,none⟩),.slice (some ⟨d,0,none⟩) (l.length+1) u] 34 (0,0))::((d,o)::(doB Q t++Z).filter (fun f=>!decide ((Value.slice p l.length c).ownBlock=some f.1))).filter (fun f=>!decide (f.1=R)):=xay _ (List.mem_filter.2 ⟨zaH ..,by simpa using af⟩)
 obtain ⟨G,ab⟩:∃G,(R,Obj.cells #[.pointer (some ⟨h,0,none⟩),.slice (some ⟨d,0,none⟩) (l.length+1) u] 34 (0,0))::((d,o)::(doB Q t++Z).filter (fun f=>!decide ((Value.slice p l.length c).ownBlock=some f.1))).filter (fun f=>!decide (f.1=R))=G:=⟨_,rfl⟩
 have av:(R,Obj.cells #[.pointer (some ⟨h,0,none⟩),.slice (some ⟨d,0,none⟩) (l.length+1) u] 34 (0,0))∈G:=by rw [<-ab];exact zaH ..
 rw [ab] at B N U
 have an:(Q+1,Obj.cells zOt 52 (0,0))∈G:=N _ (xac (by unfold doB;simp)) (by simp only;omega)
 have W:Sto m (G.filter (fun f=>!decide (f.1=Q+1))) (L+1) h (y++[g]) (vG r.S) z:=by
  have a:=(H.block (Q+1) · ·)
  obtain ⟨cc,⟨s,pp,gg,e1,e2,K⟩,hl,hz⟩:=B.ex
  refine ⟨⟨cc,⟨s,pp.fr H fun j _ e=>by rw [e];exact (hz _ an).2,gg,e1,e2,K⟩,hl,fun q a=>?_⟩,B.bel.trans (H.below B.bel.size fun j hj=>by have:=x.sto.bel.size;omega)⟩
  obtain ⟨h0,h9⟩:=List.mem_filter.1 a
  obtain ⟨D,E⟩:=hz q h0
  exact ⟨(H.block _ (Array.getElem?_eq_some_iff.1 D).1 (by simpa using h9)).trans D,E⟩
 have aq:∀q,(q∈Z/\(Value.slice p l.length c).ownBlock≠some q.1)->q.1≠R->q∈G.filter (fun f=>!decide (f.1=Q+1)):=fun q a V=>List.mem_filter.2 ⟨N q (xaf a) V,by
  have:=x.sto.low a.1
  simp only [xbA,xa0]
  omega⟩
 have ag:d≠Q+1:=by
  rcases I with e|e
  ·have:=x.olt e
   omega
  omega
 refine ⟨{ st:=r.S.last },z.heap.size,z,y++[g],rfl,⟨(yK _ _).ver,(yK _ _).fnd,(yK _ _).vrs,(yK _ _).num,(yK _ _).mrk,(yK _ _).chg⟩,rfl,?_,fun i q a=>by grind,fun M ao=>?_⟩
 ·have:=H.size
  have:=O.size
  have:=r2.size
  omega
 have ar:M=[]:=by
  cases M with
  | nil=>rfl
  | cons q M =>
  obtain ⟨D,E⟩:=ao q (zaH ..)
  have:=(Array.getElem?_eq_some_iff.1 E).1
  omega
 subst ar
 rw [xbe]
 have al:yG KTx m.heap.size m (.slice (some ⟨d,0,none⟩) (l.length+1) u) (l++[g]) z:=by
  have ae:=B.got U
  have ap:=F.got (zaH ..:(d,o)∈_)
  have ak:=(H.block d (Array.getElem?_eq_some_iff.1 ae).1 ag).trans ae
  exact ⟨fG Y.own fun k A=>by
   have e:d=k:=zaP A
   rw [<-e,ak,ap],W.bel,W.bel.size⟩
 refine ⟨_,_,_,W,fun q a=>aq q ⟨x.sub q a,fun e=>(x.own _ e).2.2 q a rfl⟩ (x.off q a),List.mem_filter.2 ⟨av,by simp only [xbA,xa0];omega⟩,al,by simp [x.len],fun j i hi=>?_,fun k A=>?_,x.off,x.base⟩
 ·by_cases hj:j<r.ids.length
  ·rw [xa7 hj] at hi
   obtain ⟨gq,D,E⟩:=x.ids j i hi
   have ai:j<l.length:=by rw [x.len];exact hj
   exact ⟨gq,by rw [xa7 ai];exact D,by rw [xa7 (List.getElem?_eq_some_iff.1 E).1];exact E⟩
  have aj:j=r.ids.length:=by
   have:=(List.getElem?_eq_some_iff.1 hi).1
   simp at this
   omega
  subst aj
  have hi':i=r.S.txs.length:=by simpa using hi.symm
  subst hi'
  exact ⟨g,by rw [<-x.len];simp,by rw [<-ac];simp⟩
 have e:d=k:=zaP A
 subst e
 refine ⟨af,⟨o,List.mem_filter.2 ⟨U,by simp only [xbA,xa0];exact ag⟩⟩,fun q a e=>?_⟩
 rcases I with K|K
 ·exact (x.own _ K).2.2 q a e
 have:=P.low (zaG (xaf (x.sub q a)))
 omega
theorem zAZ {q:World} {Z:List (Nat × Obj)} {u h:Nat} {j:List Nat} {S:Sv} {w:World} (x:Sto q Z u h j S w) (k:Ky) (g:yE k) (t:Int):CC 22 #[.pointer (some ⟨h,0,none⟩),.agg #[.string k.1,.string k.2],.int .u64 t] w fun e a=>∃z:Vx,e=.returned (.tuple #[.agg (zF z).toArray,.bool (xT S.D t k).isSome])/\z.ver=(xT S.D t k).getD zeroV/\(zW w.heap.size a z.sl z.o/\yW z.o)/\Below w.heap.size w a:=by
 have l:=x.okS
 obtain ⟨⟨c,⟨s,p,f,rfl,rfl,rfl⟩,y,B⟩,A⟩:=x
 refine (zA9 p.stat p.dirS k g t).mono ?_
 rintro e a m
 obtain ⟨z,b,rfl,n,d,i,r⟩:=zCB m fun v d=>l.may k v (zEu d)
 rw [n]
 exact ⟨z,rfl,d,i,r⟩
theorem nE.pick {v:World} {n Z:List (Nat × Obj)} {y h R:Nat} {f:List Nat} {r:Rn} {p:Option Addr} {c:Nat} {l:List Nat} {w:World} (x:nE v n y h R f r Z (.slice p l.length c) l w) {j:Nat} (hj:j<l.length) (o:O15) (s:o.x=(j:Int)) (a:o.kind≠1/\o.kind≠16/\o.kind≠17/\o.kind≠18/\o.kind≠19):∃g b e i tx,p=some ⟨b,e,none⟩/\w.cell? ⟨b,e+j,none⟩=some (.pointer (some ⟨g,0,none⟩))/\f[i]? = some g/\r.S.txs[i]? = some tx/\kU r o=((mH r.S i tx o).1,⟨(mH r.S i tx o).2,r.ids⟩):=by
 have hj':j<r.ids.length:=by rw [<-x.len];exact hj
 obtain ⟨g,z,k⟩:=x.ids j r.ids[j] (xai hj')
 have hi:r.ids[j]<r.S.txs.length:=by rw [<-x.sto.len];exact (List.getElem?_eq_some_iff.1 k).1
 obtain ⟨B,A,t,d⟩:=x.row.is
 injection t with e1 _ _
 subst e1
 rcases d with d|⟨b,e,m,d⟩
 ·rw [d] at hj;simp at hj
 have u:=d j hj 0 _ rfl
 have q:l[j]=g:=by
  have:=xai hj
  rw [z] at this
  exact (zaP this).symm
 refine ⟨g,b,e,r.ids[j],r.S.txs[r.ids[j]],m,?_,k,xai hi,?_⟩
 ·rw [<-q]
  simpa [KTx] using u
 unfold kU
 rw [xag a.1,xag a.2.1,xag a.2.2.1,xag a.2.2.2.1,xag a.2.2.2.2,xag (by omega),s]
 simp only [Int.toNat_natCast,xai hj',xai hi]
theorem bL {c:World} {Q:Nat} {ot:Ot} {P:World->Prop} (g:c.heap[Q+1]? = some (.cells zOt 52 (0,0))) (h:∀a,Fr (fun b=>b=Q+1) c a->P a):Hid (c.there (Q+1) 0 (zX ot).toArray.size/\(zX ot).toArray.all (·.oneCell')=true)/\∃a,Hid (c.setCells (Q+1) 0 (zX ot).toArray.toList=a/\P a/\Fr (fun b=>b=Q+1) c a)/\a.cell? ⟨Q+1,0,none⟩=some (.int .i64 ot.v.num)/\a.cell? ⟨Q+1,1,none⟩=some (.int .u64 ot.v.stamp)/\a.cell? ⟨Q+1,2,none⟩=some (.int .i64 ot.v.tick)/\a.cell? ⟨Q+1,3,none⟩=some (.bool ot.v.live)/\a.cell? ⟨Q+1,4,none⟩=some (.slice ot.v.p ot.v.o.length ot.v.cap)/\a.cell? ⟨Q+1,5,none⟩=some (.slice ot.fp ot.fs.length ot.fc)/\a.cell? ⟨Q+1,6,none⟩=some (.slice ot.wp ot.vs.length ot.wc)/\a.cell? ⟨Q+1,7,none⟩=some (.int .i64 ot.e)/\a.cell? ⟨Q+1,8,none⟩=some (.int .u64 ot.st)/\a.cell? ⟨Q+1,9,none⟩=some (.slice ot.np ot.ns.length ot.nc)/\a.cell? ⟨Q+1,10,none⟩=some (.bool ot.ok)/\a.cell? ⟨Q+1,11,none⟩=some (.slice ot.m.kp ot.m.ks.length ot.m.kc)/\a.cell? ⟨Q+1,12,none⟩=some (.slice ot.m.rp ot.m.rs.length ot.m.rc)/\a.cell? ⟨Q+1,13,none⟩=some (.slice ot.cp ot.cs.length ot.cc):=by
 obtain ⟨a,f⟩:∃a,c.setCells (Q+1) 0 (zX ot)=a:=⟨_,rfl⟩
 have j:(zX ot).length=zOt.size:=by rfl
 obtain ⟨i,d⟩:=tH g j f
 exact ⟨hid ⟨(xQ (cs:=zOt.toList) g).2,zMl ot⟩,a,hid ⟨f,h a d,d⟩,zEs i⟩
theorem zCH {a:World} {Z:List (Nat × Obj)} {b h Q:Nat} {d:List Nat} {S:Sv} {c:Array Value} {V w:World} (hs:Hid (V.heap.size=Q+2)) (cs:Array Value) (x:Sto a (doB Q c++Z) b h d S w):∃B w5,Hid (w.heap.size=B/\w.alloc (.cells cs 3)=w5)/\Hid (w5.heap[B]? = some (.cells cs 3 (0,0))/\wY a (doB Q c++Z) b h d S B w5 w5/\V.heap.size<=B):=by
 refine ⟨_,_,hid ⟨rfl,rfl⟩,hid ⟨xab w _,wY.box x (zaQ) rfl,?_⟩⟩
 have:=x.low (p:=(Q+1,.cells zOt 52 (0,0))) (by unfold doB;simp)
 simp only at this
 have:=hs.out
 omega
theorem zBH {a:World} {Z:List (Nat × Obj)} {b h Q:Nat} {d:List Nat} {S:Sv} {c:Array Value} {w:World} (x:Sto a (doB Q c++Z) b h d S w):w.heap[Q+1]? = some (.cells zOt 52 (0,0)):=x.got (by unfold doB;simp)
theorem zN9 {N:World} {ZU:List (Nat × Obj)} {Y h R:Nat} {gs:List Nat} {r:Rn} {w:World} (x:zE7 N ZU Y h R gs r w) (hn:Y<=80000000) (hl:r.ids.length<=100000000) (o:Ov) (ho:zDk w o):CC 9 #[.pointer (some ⟨R,0,none⟩),.agg (vN o).toArray] w fun e a=>nT N ZU (Y+1) h R gs (kU r o.op) w e a:=by
 obtain ⟨Z,v,l,x⟩:=x
 obtain ⟨am,q0,q1,ax⟩:=vD w (vN o).toArray zOt 40 52
 obtain ⟨V,hV⟩:∃V,(w.alloc (.cells (vN o).toArray 40)).alloc (.cells zOt 52)=V:=⟨_,rfl⟩
 obtain ⟨Q,hQ⟩:∃Q,w.heap.size=Q:=⟨_,rfl⟩
 rw [hV] at am q0 q1 ax
 rw [hQ] at q0 q1 ax
 have bh:=x.sto.pins am (doB Q (vN o).toArray) (zNk hQ q0 q1)
 obtain ⟨p,c,rfl⟩:=x.shape
 have ch:=(x.on am).cells
 have G:=hid x
 have ai:=hid ax
 have HQ:=hid hQ
 have HO:=hid (ho.on am)
 have HB:=hid am
 have dl:l.length<=100000000:=by rw [x.len];exact hl
 obtain ⟨RR,bl⟩:∃RR,kU r o.op=RR:=⟨_,rfl⟩
 rw [bl]
 obtain ⟨C,hC⟩:∃C,(vN o).toArray=C:=⟨_,rfl⟩
 rw [hC] at bh q0
 have HV:=hid bh
 obtain ⟨L,F,J,H,vp,vc,vo,pp,pc,pt,I,t⟩:=o
 simp only [vN,Ov.op] at *
 have HR:=hid bl
 have HC:=hid hC
 have HS:Hid (∀a:World,a.heap[Q]? = some (.cells C 40 (0,0))->a.heap[R]? = some (.cells #[.pointer (some ⟨h,0,none⟩),.slice p l.length c] 34 (0,0))->(a.cell? ⟨R,0,none⟩=some (.pointer (some ⟨h,0,none⟩))/\a.cell? ⟨R,1,none⟩=some (.slice p l.length c)/\(a.cell? ⟨Q,2,none⟩=some (.string J)/\a.cell? ⟨Q,3,none⟩=some (.string H))/\a.cell? ⟨Q,6,none⟩=some (.int .u64 I)/\a.cell? ⟨Q,1,none⟩=some (.int .i64 F)/\a.cell? ⟨Q,7,none⟩=some (.int .i64 t))):=hid fun a q r=>by
  rw [<-HC.out] at q
  refine ⟨?_,?_,⟨?_,?_⟩,?_,?_,?_⟩<;>first|(rw [zaC q];rfl)|(rw [zaC r];rfl)
 have ag:Hid (∀(u a:World) (nr':Nat) (gs':List Nat) (S':Sv),Sto N (doB Q C++Z) nr' h gs' S' u->Fr (fun b=>b=Q+1) u a->(a.cell? ⟨R,0,none⟩=some (.pointer (some ⟨h,0,none⟩))/\a.cell? ⟨R,1,none⟩=some (.slice p l.length c)/\(a.cell? ⟨Q,2,none⟩=some (.string J)/\a.cell? ⟨Q,3,none⟩=some (.string H))/\a.cell? ⟨Q,6,none⟩=some (.int .u64 I)/\a.cell? ⟨Q,1,none⟩=some (.int .i64 F)/\a.cell? ⟨Q,7,none⟩=some (.int .i64 t))):=hid fun u a _ _ _ y f=>by
  have e1:=y.got (k:=Q) (b:=.cells C 40 (0,0)) (by unfold doB;simp)
  have e2:=y.got (zaG (xaf G.out.box))
  have:=G.out.lt
  have:=HQ.out
  exact HS.out _ ((f.block _ (Array.getElem?_eq_some_iff.1 e1).1 (by omega)).trans e1) ((f.block _ (Array.getElem?_eq_some_iff.1 e2).1 (by omega)).trans e2)
 have a0:V.cell? ⟨Q,0,none⟩=some (.int .i64 L):=by rw [<-hC] at q0;rw [zaC q0];rfl
 have ab:=HS.out V q0 ch
 clear x ho bh am q0 q1 ax ch bl hC
 unfold zOt at hV
 go_enter func9,ntmps9
 go_upto_region 1 with fail
 try rw [hV]
 try rw [hQ]
 clear hV hQ
 by_cases k1:L=1
 ·subst k1
  obtain ⟨i0,cc,de,dc,dg⟩:=xaL Tryz.infoX15
  have di:=hid cc
  obtain ⟨bd,bc,-⟩:=ab
  go_wp2_with fail
  refine (zAe HV.out (by omega)).mono ?_
  rintro e3 w3 ⟨g,rfl,bg⟩
  obtain ⟨B,hB⟩:∃B,w3.heap.size=B:=⟨_,rfl⟩
  obtain ⟨X,hX⟩:∃X,w3.alloc (.cells #[.pointer (some ⟨g,0,none⟩)] 54)=X:=⟨_,rfl⟩
  have ah:=bg.on (show Below w3.heap.size w3 X by rw [<-hX];exact zaQ)
  have cp:Hid (X.heap[B]? = some (.cells (KTx.enc g).toArray 54 (0,0))):=hid (by rw [<-hX,<-hB];exact xab w3 _)
  have bi:Sto N Z (Y+1) h (gs++[g]) (vG r.S) X:=ah.sub fun p hp=>zaG (xaf hp)
  have bq:=hid (zFn G.out.row G.out.sto bi fun k hk=>(G.out.own k hk).2.1)
  have bk:=hid ah
  have x0:w3.cell? ⟨R,1,none⟩=some (.slice p l.length c):=by rw [zaC (bg.got (zaG (xaf G.out.box)))];rfl
  have x1:X.cell? ⟨R,1,none⟩=some (.slice p l.length c):=by rw [zaC (bi.got G.out.box)];rfl
  clear bg ah bi cc a0 bd bc
  go_upto_region 5 with (first|(at_builtin;(try rw [hB]);(try rw [hX]);refine xG KTx rfl _ _ 32 rfl i0 _ 8 underlying32 di.out de dc dg rfl N.heap.size N (.slice p l.length c) l rfl bq.out g B 1 1 rfl rfl _ _ cp.out (by unfold maxLen;omega) (by omega) ?_;intro T c3 w5 r1 r2 r3;obtain ⟨⟨ay,cq⟩,bv⟩:=zO9 G.out HQ.out bk.out r1 r2 r3 (by have:=bk.out.low (p:=(Q+1,.cells zOt 52 (0,0))) (by unfold doB;simp);simp only at this;omega);have bo:=hid bv;have dh:=hid cq;have cj:=hid ay;have e1:w5.cell? ⟨R,1,none⟩=some (.slice p l.length c):=(by rw [zaC ay];rfl);have e2:w5.frozen? ⟨R,1,none⟩=false:=zaF ay 1;clear r1 r2 r3 bv cq ay x0 x1)|fail)
  obtain ⟨W6,az⟩:∃W6,w5.setCell ⟨R,1,none⟩ (.slice (some ⟨T,0,none⟩) (l.length+1) c3)=W6:=⟨_,rfl⟩
  try rw [az]
  obtain ⟨bx,bt,cr⟩:=bo.out W6 (by rw [<-az];exact zZ w5 R 1 _) (by rw [<-az];exact xaa w5 R 1 _ _ _ cj.out)
  have ck:=hid bx
  have HF:=hid cr
  obtain ⟨E,j,s,g0,g1,g2,T,g4,g5,g6,g7,g8,g9,ad,ac,ae,af⟩:=bL (ot:={ st:=r.S.last }) (P:=fun j=>nT N ZU (Y+1) h R gs RR w (.returned (.agg (zX { st:=r.S.last }).toArray)) j) bt (fun j f=>by rw [<-HR.out];exact HF.out j f)
  clear bx cr bt bo dh cj e1 e2 az bk bq cp hX
  go_wp2_with fail
  refine ck.out.mono ?_
  rintro e7 w7 ⟨rfl,cg⟩
  rw [cg]
  clear cg ck
  go_wp2_with (refine zJ rfl 52 _ _ rfl (Q+1) 0 (zX { st:=r.S.last }).toArray rfl rfl E.out.1 Tryz.outSize E.out.2 j s.out.1 ?_)
  exact zaB (v:=.agg (zX { st:=r.S.last }).toArray) (by simp [results,results9,go_sem,zX,g0,g1,g2,T,g4,g5,g6,g7,g8,g9,ad,ac,ae,af]) rfl s.out.2.1
 by_cases k16:L=16
 ·subst k16
  obtain ⟨bd,bc,-⟩:=ab
  go_wp2_with fail
  refine (mR HV.out (by omega)).mono ?_
  rintro e4 w4 ⟨rfl,ah⟩
  obtain ⟨B,w5,O,H5⟩:=zCH ai #[.int .i64 (tL r.S.D (zP r.S):Nat)] ah
  obtain ⟨ak,m,M⟩:=H5.out
  obtain ⟨E,j,s,g0,g1,g2,T,g4,g5,g6,g7,g8,g9,ad,ac,ae,af⟩:=bL (ot:={ st:=zP r.S,np:=some ⟨B,0,none⟩,nc:=1,ns:=[(tL r.S.D (zP r.S):Int)] }) (P:=fun j=>nT N ZU (Y+1) h R gs RR w (.returned (.agg (zX { st:=zP r.S,np:=some ⟨B,0,none⟩,nc:=1,ns:=[(tL r.S.D (zP r.S):Int)] }).toArray)) j) (zBH m.sto) (fun j f=>by rw [<-HR.out];exact zAp G.out HQ.out ai.out (ot:={ st:=zP r.S,np:=some ⟨B,0,none⟩,nc:=1,ns:=[(tL r.S.D (zP r.S):Int)] }) M (m.mono (xax _)) (fun _ _ e=>e) f ({ yK B w5 with num:=zGi ak (zaL _) }) rfl)
  clear ak m M ah bd bc
  go_wp2_with (first|(refine zJ rfl 52 _ _ rfl (Q+1) 0 (zX { st:=zP r.S,np:=some ⟨B,0,none⟩,nc:=1,ns:=[(tL r.S.D (zP r.S):Int)] }).toArray rfl rfl E.out.1 Tryz.outSize E.out.2 j s.out.1 ?_)|(simp only [O.out.1,O.out.2];refine zJ rfl 52 _ _ rfl (Q+1) 0 (zX { st:=zP r.S,np:=some ⟨B,0,none⟩,nc:=1,ns:=[(tL r.S.D (zP r.S):Int)] }).toArray rfl rfl E.out.1 Tryz.outSize E.out.2 j s.out.1 ?_))
  exact zaB (v:=.agg (zX { st:=zP r.S,np:=some ⟨B,0,none⟩,nc:=1,ns:=[(tL r.S.D (zP r.S):Int)] }).toArray) (by simp [results,results9,go_sem,zX,g0,g1,g2,T,g4,g5,g6,g7,g8,g9,ad,ac,ae,af]) rfl s.out.2.1
 by_cases k17:L=17
 ·subst k17
  go_upto_region 10 with fail
  refine tkb (S:=fun a=>a.cell? ⟨R,0,none⟩=some (.pointer (some ⟨h,0,none⟩))/\a.cell? ⟨R,1,none⟩=some (.slice p l.length c)/\(a.cell? ⟨Q,2,none⟩=some (.string J)/\a.cell? ⟨Q,3,none⟩=some (.string H))/\a.cell? ⟨Q,6,none⟩=some (.int .u64 I)/\a.cell? ⟨Q,1,none⟩=some (.int .i64 F)/\a.cell? ⟨Q,7,none⟩=some (.int .i64 t)) ab fun hA=>?_
  refine tkv 0 (.pointer (some ⟨R,0,none⟩)) hA ?_
  simp only [Act.put,sz]
  refine tkv 1 (.pointer (some ⟨R,0,none⟩)) hA ?_
  simp only [Act.put,sz]
  refine tkv 2 (.pointer (some ⟨R,0,none⟩)) hA ?_
  simp only [Act.put,sz]
  refine tkv 3 (.pointer (some ⟨h,0,none⟩)) hA ?_
  simp only [Act.put,sz]
  refine tkv 4 (.pointer (some ⟨Q,7,none⟩)) hA ?_
  simp only [Act.put,sz]
  refine tkv 5 (.int .i64 t) hA ?_
  simp only [Act.put,sz]
  clear hA ab
  refine xaA (rs:=[6]) (by kernel_rfl) (by simp) ?_
  refine xao (zB rfl) (fun K d=>?_) xau
  rw [xae (by rfl)]
  go_simp
  refine (zOI (HV.out.on (zG (zaR V.heap.size V) 1)) t HO.out.n1).mono ?_
  rintro e4 w4 ⟨rfl,ah⟩
  obtain ⟨B,w5,O,H5⟩:=zCH ai #[.int .i64 (wE r.S.tick t)] ah
  obtain ⟨ak,m,M⟩:=H5.out
  obtain ⟨E,j,s,g0,g1,g2,T,g4,g5,g6,g7,g8,g9,ad,ac,ae,af⟩:=bL (ot:={ np:=some ⟨B,0,none⟩,nc:=1,ns:=[wE r.S.tick t] }) (P:=fun j=>nT N ZU (Y+1) h R gs RR w (.returned (.agg (zX { np:=some ⟨B,0,none⟩,nc:=1,ns:=[wE r.S.tick t] }).toArray)) j) (zBH m.sto) (fun j f=>by rw [<-HR.out];exact zAp G.out HQ.out ai.out (ot:={ np:=some ⟨B,0,none⟩,nc:=1,ns:=[wE r.S.tick t] }) M (m.mono (xax _)) (fun _ _ e=>e) f ({ yK B w5 with num:=zGi ak (zaL _) }) rfl)
  have ca:=ag.out _ _ _ _ _ ah (Fr.refl _ _)
  have aj:=ag.out _ _ _ _ _ m.sto (Fr.refl _ _)
  have al:=ag.out _ _ _ _ _ m.sto s.out.2.2
  clear ak m M ah a0
  refine d.out _ _ ca (fun hA=>?_)
  clear d K
  try simp only [Act.put,sz]
  clear hA ca
  refine xaA (rs:=[7]) (by kernel_rfl) (by simp) ?_
  refine xao (zB rfl) (fun K d=>?_) xau
  rw [xae (by rfl)]
  go_simp
  go_wp2_with fail
  rw [O.out.1,O.out.2]
  refine d.out _ _ aj (fun hA=>?_)
  clear d K
  try simp only [Act.put,sz]
  clear aj
  refine tkv 8 (.agg #[.int .i64 0,.int .u64 0,.int .i64 0,.bool false,.slice none 0 0,.slice none 0 0,.slice none 0 0,.int .i64 0,.int .u64 0,.slice (some ⟨B,0,none⟩) 1 1,.bool false,.slice none 0 0,.slice none 0 0,.slice none 0 0]) hA ?_
  simp only [Act.put,sz]
  clear hA
  refine xaA (rs:=[9]) (by kernel_rfl) (by simp) ?_
  refine xao (zB rfl) (fun K d=>?_) xau
  rw [xae (by rfl)]
  refine xbH 52 _ _ rfl (Q+1) 0 (zX { np:=some ⟨B,0,none⟩,nc:=1,ns:=[wE r.S.tick t] }).toArray rfl rfl E.out.1 Tryz.outSize E.out.2 ?_
  rw [s.out.1]
  refine d.out _ _ al (fun hA=>?_)
  clear d K
  try simp only [Act.put,sz]
  refine tkd ?_
  clear hA al
  go_wp2_with fail
  exact zaB (v:=.agg (zX { np:=some ⟨B,0,none⟩,nc:=1,ns:=[wE r.S.tick t] }).toArray) (by simp [results,results9,go_sem,zX,g0,g1,g2,T,g4,g5,g6,g7,g8,g9,ad,ac,ae,af]) rfl s.out.2.1
 by_cases k18:L=18
 ·subst k18
  obtain ⟨ao,bf⟩:∃ao,xT r.S.D I (J,H)=ao:=⟨_,rfl⟩
  obtain ⟨W,bm⟩:∃W,ao.isSome=W:=⟨_,rfl⟩
  have bp:Hid (∀W',Below w.heap.size w W'->CC 22 #[.pointer (some ⟨h,0,none⟩),.agg #[.string J,.string H],.int .u64 I] W' fun e a=>∃z:Vx,e=.returned (.tuple #[.agg (zF z).toArray,.bool W])/\z.ver=ao.getD zeroV/\(zW W'.heap.size a z.sl z.o/\yW z.o)/\Below W'.heap.size W' a):=hid fun W' q=>by rw [<-bm,<-bf];exact zAZ (G.out.sto.on q) (J,H) HO.out.key I
  have aw:Hid (({ ver:=ao.getD zeroV,ok:=W },⟨r.S,r.ids⟩)=RR):=hid (by rw [<-HR.out,<-bm,<-bf];rfl)
  have ap:Hid (∀a,Below V.heap.size V a->(a.cell? ⟨R,0,none⟩=some (.pointer (some ⟨h,0,none⟩))/\a.cell? ⟨R,1,none⟩=some (.slice p l.length c)/\(a.cell? ⟨Q,2,none⟩=some (.string J)/\a.cell? ⟨Q,3,none⟩=some (.string H))/\a.cell? ⟨Q,6,none⟩=some (.int .u64 I)/\a.cell? ⟨Q,1,none⟩=some (.int .i64 F)/\a.cell? ⟨Q,7,none⟩=some (.int .i64 t))):=hid fun a q=>ag.out _ _ _ _ _ (HV.out.on q) (Fr.refl _ _)
  clear bf bm
  go_upto_region 12 with fail
  clear a0
  go_cut [8,9] from 10 (fun v8 v9 wx=>∃(z:Vx) (B:Nat),v8=.pointer (some ⟨B,0,none⟩)/\v9=.bool W/\Hid (AtC V ao z B wx))
  case first =>
   refine tkb (S:=fun a=>a.cell? ⟨R,0,none⟩=some (.pointer (some ⟨h,0,none⟩))/\a.cell? ⟨R,1,none⟩=some (.slice p l.length c)/\(a.cell? ⟨Q,2,none⟩=some (.string J)/\a.cell? ⟨Q,3,none⟩=some (.string H))/\a.cell? ⟨Q,6,none⟩=some (.int .u64 I)/\a.cell? ⟨Q,1,none⟩=some (.int .i64 F)/\a.cell? ⟨Q,7,none⟩=some (.int .i64 t)) ab fun hA=>?_
   refine tkv 0 (.pointer (some ⟨R,0,none⟩)) hA ?_
   simp only [Act.put,sz]
   refine tkv 1 (.pointer (some ⟨R,0,none⟩)) hA ?_
   simp only [Act.put,sz]
   refine tkv 2 (.pointer (some ⟨R,0,none⟩)) hA ?_
   simp only [Act.put,sz]
   refine tkv 3 (.pointer (some ⟨h,0,none⟩)) hA ?_
   simp only [Act.put,sz]
   refine tkv 4 (.pointer (some ⟨Q,2,none⟩)) hA ?_
   simp only [Act.put,sz]
   refine tkv 5 (.agg #[.string J,.string H]) hA ?_
   simp only [Act.put,sz]
   refine tkv 6 (.pointer (some ⟨Q,6,none⟩)) hA ?_
   simp only [Act.put,sz]
   refine tkv 7 (.int .u64 I) hA ?_
   simp only [Act.put,sz]
   clear hA ab
   have av:Hid (Below V.heap.size V V.drew):=hid (zG (zaR _ V) 1)
   generalize V.drew=X1 at *
   refine xaA (rs:=[8,12]) (by kernel_rfl) (by simp) ?_
   refine xao (zB rfl) (fun K d=>?_) (xao (zB rfl) (fun K d=>?_) xau)
   rw [xae (by rfl)]
   go_simp
   refine (bp.out X1 (zA HB.out HB.out.size av.out)).mono ?_
   rintro e2 u2 ⟨z,rfl,aq,⟨ar,au⟩,an⟩
   obtain ⟨B,u3,O,HM⟩:=zBQ av.out aq ar au an
   have cb:=hid (zA av.out av.out.size an)
   clear aq ar au an
   go_wp2_with fail
   refine d.out _ _ (ap.out u2 cb.out) (fun hA=>?_)
   clear d K
   try simp only [Act.put,sz]
   refine tkv 9 (.tuple #[.agg (zF z).toArray,.bool W]) hA ?_
   simp only [Act.put,sz]
   refine tkv 10 (.agg (zF z).toArray) hA ?_
   simp only [Act.put,sz]
   refine tkv 11 (.bool W) hA ?_
   simp only [Act.put,sz]
   clear hA
   refine xaA (rs:=[12]) (by kernel_rfl) (by simp) ?_
   refine xao (zB rfl) (fun K d=>?_) xau
   rw [xae (by rfl)]
   go_simp
   go_wp2_with fail
   rw [O.out.1,O.out.2]
   refine d.out _ _ (ap.out u3 HM.out.2.2.1) (fun hA=>?_)
   clear d K
   try simp only [Act.put,sz]
   clear hA O cb
   rotate_left
   obtain ⟨B,u2,O,ba⟩:=kH av.out
   rw [O.out.1,O.out.2]
   refine d.out _ _ (ap.out u2 ba.out.2.2.1) (fun hA=>?_)
   clear d K
   try simp only [Act.put,sz]
   clear hA O
   refine xaA (rs:=[8]) (by kernel_rfl) (by simp) ?_
   refine xao (zB rfl) (fun K d=>?_) xau
   rw [xae (by rfl)]
   go_simp
   refine (bp.out u2 (zA HB.out HB.out.size ba.out.2.2.1)).mono ?_
   rintro e3 u3 ⟨z,rfl,aq,⟨ar,au⟩,an⟩
   have HM:=fR ba.out aq ar au an
   clear aq ar au an ba
   go_wp2_with fail
   refine d.out _ _ (ap.out u3 HM.out.2.2.1) (fun hA=>?_)
   clear d K
   try simp only [Act.put,sz]
   refine tkv 9 (.tuple #[.agg (zF z).toArray,.bool W]) hA ?_
   simp only [Act.put,sz]
   refine tkv 10 (.agg (zF z).toArray) hA ?_
   simp only [Act.put,sz]
   refine tkv 11 (.bool W) hA ?_
   simp only [Act.put,sz]
   clear hA
   all_goals
    obtain ⟨br,j,s,HA⟩:=zDU HM.out
    refine xaA (rs:=[13]) (by kernel_rfl) (by simp) ?_
    refine xao (zB rfl) (fun K d=>?_) xau
    rw [xae (by rfl)]
    refine xbH 42 _ _ rfl B 0 (zF z).toArray rfl rfl br.out Tryz.verSize (wF z) ?_
    rw [s.out]
    refine d.out _ _ (ap.out j HA.out.2.2.1) (fun hA=>?_)
    clear d K
    try simp only [Act.put,sz]
    clear HM br s
    refine tkv 14 (.bool W) hA ?_
    simp only [Act.put,sz]
    refine tkd ?_
    clear hA
    go_wp2_with fail
    go_meet
    exact ⟨z,B,rfl,rfl,HA.out⟩
  obtain ⟨⟨yn,ys,yt,yl,yp,yc,yo⟩,B,rfl,rfl,HA⟩:=hcut
  obtain ⟨cl,cu,ci,cd,bs,A,w3,M,hj,cw,cn⟩:=HA.out
  have m:wY N (doB Q C++Z) Y h gs r.S A w3 wc:=fun Zt dd=>HV.out.pins ci Zt fun p hp=>by obtain ⟨e1,e2⟩:=dd p hp;exact ⟨zaU M e1,(cn p.1 e1 (Array.getElem?_eq_some_iff.1 e2).1).trans e2⟩
  have df:=hid (xQ (cs:=zF ⟨yn,ys,yt,yl,yp,yc,yo⟩) cl).1
  obtain ⟨E,j,s,g0,g1,g2,T,g4,g5,g6,g7,g8,g9,ad,ac,ae,af⟩:=bL (ot:={ v:=⟨yn,ys,yt,yl,yp,yc,yo⟩,ok:=W }) (P:=fun j=>nT N ZU (Y+1) h R gs RR w (.returned (.agg (zX { v:=⟨yn,ys,yt,yl,yp,yc,yo⟩,ok:=W }).toArray)) j) (zBH m.sto) (fun j f=>by rw [<-aw.out];exact zAp G.out HQ.out ai.out (ot:={ v:=⟨yn,ys,yt,yl,yp,yc,yo⟩,ok:=W }) M (m.mono (xax _)) (fun _ _ e=>e) f ({ yK A w3 with ver:=⟨hj,bs⟩ }) (by unfold Ot.r;simp only;rw [cd];rfl))
  clear cl cu ci cd bs M hj cw cn m
  go_wp2_with (first|(refine yX rfl 42 _ rfl B 0 rfl (zF ⟨yn,ys,yt,yl,yp,yc,yo⟩) _ df.out underlying42 rfl Tryz.verSize (.agg #[.int .i64 yn,.int .u64 ys,.int .i64 yt,.bool yl,.slice yp yo.length yc]) rfl ?_)|(refine zJ rfl 52 _ _ rfl (Q+1) 0 (zX { v:=⟨yn,ys,yt,yl,yp,yc,yo⟩,ok:=W }).toArray rfl rfl E.out.1 Tryz.outSize E.out.2 j s.out.1 ?_))
  exact zaB (v:=.agg (zX { v:=⟨yn,ys,yt,yl,yp,yc,yo⟩,ok:=W }).toArray) (by simp [results,results9,go_sem,zX,g0,g1,g2,T,g4,g5,g6,g7,g8,g9,ad,ac,ae,af]) rfl s.out.2.1
 by_cases k19:L=19
 ·subst k19
  go_upto_region 15 with fail
  refine tkb (S:=fun a=>a.cell? ⟨R,0,none⟩=some (.pointer (some ⟨h,0,none⟩))/\a.cell? ⟨R,1,none⟩=some (.slice p l.length c)/\(a.cell? ⟨Q,2,none⟩=some (.string J)/\a.cell? ⟨Q,3,none⟩=some (.string H))/\a.cell? ⟨Q,6,none⟩=some (.int .u64 I)/\a.cell? ⟨Q,1,none⟩=some (.int .i64 F)/\a.cell? ⟨Q,7,none⟩=some (.int .i64 t)) ab fun hA=>?_
  refine tkv 0 (.pointer (some ⟨R,0,none⟩)) hA ?_
  simp only [Act.put,sz]
  refine tkv 1 (.pointer (some ⟨R,0,none⟩)) hA ?_
  simp only [Act.put,sz]
  refine tkv 2 (.pointer (some ⟨R,0,none⟩)) hA ?_
  simp only [Act.put,sz]
  refine tkv 3 (.pointer (some ⟨h,0,none⟩)) hA ?_
  simp only [Act.put,sz]
  refine tkv 5 (.pointer (some ⟨R,0,none⟩)) hA ?_
  simp only [Act.put,sz]
  refine tkv 6 (.pointer (some ⟨R,0,none⟩)) hA ?_
  simp only [Act.put,sz]
  refine tkv 7 (.pointer (some ⟨R,0,none⟩)) hA ?_
  simp only [Act.put,sz]
  refine tkv 8 (.pointer (some ⟨h,0,none⟩)) hA ?_
  simp only [Act.put,sz]
  refine tkv 10 (.pointer (some ⟨R,0,none⟩)) hA ?_
  simp only [Act.put,sz]
  refine tkv 11 (.pointer (some ⟨R,0,none⟩)) hA ?_
  simp only [Act.put,sz]
  refine tkv 12 (.pointer (some ⟨R,0,none⟩)) hA ?_
  simp only [Act.put,sz]
  refine tkv 13 (.pointer (some ⟨h,0,none⟩)) hA ?_
  simp only [Act.put,sz]
  refine tkv 15 (.pointer (some ⟨R,0,none⟩)) hA ?_
  simp only [Act.put,sz]
  refine tkv 16 (.pointer (some ⟨R,0,none⟩)) hA ?_
  simp only [Act.put,sz]
  refine tkv 17 (.pointer (some ⟨R,0,none⟩)) hA ?_
  simp only [Act.put,sz]
  refine tkv 18 (.pointer (some ⟨h,0,none⟩)) hA ?_
  simp only [Act.put,sz]
  clear hA ab a0
  refine xaA (rs:=[4]) (by kernel_rfl) (by simp) ?_
  refine xao (zB rfl) (fun K d=>?_) xau
  rw [xae (by rfl)]
  go_simp
  refine (pV (HV.out.on (zG (zaR V.heap.size V) 1))).mono ?_
  rintro e0 u0 ⟨rfl,y0⟩
  have cv:=hid y0
  have hS:=ag.out _ _ _ _ _ y0 (Fr.refl _ _)
  clear y0
  refine d.out _ _ hS (fun hA=>?_)
  clear d K
  try simp only [Act.put,sz]
  clear hA hS
  refine xaA (rs:=[9]) (by kernel_rfl) (by simp) ?_
  refine xao (zB rfl) (fun K d=>?_) xau
  rw [xae (by rfl)]
  go_simp
  refine (mL cv.out (by omega)).mono ?_
  rintro e1 u1 ⟨rfl,y1⟩
  have cx:=hid y1
  have hS:=ag.out _ _ _ _ _ y1 (Fr.refl _ _)
  clear y1
  refine d.out _ _ hS (fun hA=>?_)
  clear d K
  try simp only [Act.put,sz]
  clear hA hS
  refine xaA (rs:=[14]) (by kernel_rfl) (by simp) ?_
  refine xao (zB rfl) (fun K d=>?_) xau
  rw [xae (by rfl)]
  go_simp
  refine (zCV cx.out).mono ?_
  rintro e2 u2 ⟨rfl,y2⟩
  have db:=hid y2
  have hS:=ag.out _ _ _ _ _ y2 (Fr.refl _ _)
  clear y2
  refine d.out _ _ hS (fun hA=>?_)
  clear d K
  try simp only [Act.put,sz]
  clear hA hS
  refine xaA (rs:=[19]) (by kernel_rfl) (by simp) ?_
  refine xao (zB rfl) (fun K d=>?_) xau
  rw [xae (by rfl)]
  go_simp
  refine (zBW db.out).mono ?_
  rintro e3 u3 ⟨rfl,y3⟩
  have dn:=hid y3
  have hS:=ag.out _ _ _ _ _ y3 (Fr.refl _ _)
  obtain ⟨B,w5,O,H5⟩:=zCH ai #[.int .i64 (zT r.S.D:Nat),.int .i64 (yY (xR r.S):Nat),.int .i64 (r.S.tk.kept.length:Nat)] y3
  obtain ⟨ak,m,M⟩:=H5.out
  obtain ⟨E,j,s,g0,g1,g2,T,g4,g5,g6,g7,g8,g9,ad,ac,ae,af⟩:=bL (ot:={ st:=r.S.last,np:=some ⟨B,0,none⟩,nc:=3,ns:=[(zT r.S.D:Int),(yY (xR r.S):Int),(r.S.tk.kept.length:Int)] }) (P:=fun j=>nT N ZU (Y+1) h R gs RR w (.returned (.agg (zX { st:=r.S.last,np:=some ⟨B,0,none⟩,nc:=3,ns:=[(zT r.S.D:Int),(yY (xR r.S):Int),(r.S.tk.kept.length:Int)] }).toArray)) j) (zBH m.sto) (fun j f=>by rw [<-HR.out];exact zAp G.out HQ.out ai.out (ot:={ st:=r.S.last,np:=some ⟨B,0,none⟩,nc:=3,ns:=[(zT r.S.D:Int),(yY (xR r.S):Int),(r.S.tk.kept.length:Int)] }) M (m.mono (xax _)) (fun _ _ e=>e) f ({ yK B w5 with num:=zL0 ak (zaL _) }) rfl)
  have aj:=ag.out _ _ _ _ _ m.sto (Fr.refl _ _)
  have al:=ag.out _ _ _ _ _ m.sto s.out.2.2
  clear ak m M y3
  refine d.out _ _ hS (fun hA=>?_)
  clear d K
  try simp only [Act.put,sz]
  clear hA hS
  refine xaA (rs:=[20]) (by kernel_rfl) (by simp) ?_
  refine xao (zB rfl) (fun K d=>?_) xau
  rw [xae (by rfl)]
  go_simp
  go_wp2_with fail
  rw [O.out.1,O.out.2]
  refine d.out _ _ aj (fun hA=>?_)
  clear d K
  try simp only [Act.put,sz]
  clear aj
  refine tkv 21 (.agg #[.int .i64 0,.int .u64 0,.int .i64 0,.bool false,.slice none 0 0,.slice none 0 0,.slice none 0 0,.int .i64 0,.int .u64 r.S.last,.slice (some ⟨B,0,none⟩) 3 3,.bool false,.slice none 0 0,.slice none 0 0,.slice none 0 0]) hA ?_
  simp only [Act.put,sz]
  clear hA
  refine xaA (rs:=[22]) (by kernel_rfl) (by simp) ?_
  refine xao (zB rfl) (fun K d=>?_) xau
  rw [xae (by rfl)]
  refine xbH 52 _ _ rfl (Q+1) 0 (zX { st:=r.S.last,np:=some ⟨B,0,none⟩,nc:=3,ns:=[(zT r.S.D:Int),(yY (xR r.S):Int),(r.S.tk.kept.length:Int)] }).toArray rfl rfl E.out.1 Tryz.outSize E.out.2 ?_
  rw [s.out.1]
  refine d.out _ _ al (fun hA=>?_)
  clear d K
  try simp only [Act.put,sz]
  refine tkd ?_
  clear hA al
  go_wp2_with fail
  exact zaB (v:=.agg (zX { st:=r.S.last,np:=some ⟨B,0,none⟩,nc:=3,ns:=[(zT r.S.D:Int),(yY (xR r.S):Int),(r.S.tk.kept.length:Int)] }).toArray) (by simp [results,results9,go_sem,zX,g0,g1,g2,T,g4,g5,g6,g7,g8,g9,ad,ac,ae,af]) rfl s.out.2.1
 obtain ⟨BB,bn⟩:∃BB,decide (F<0∨(l.length:Int)<=F)=BB:=⟨_,rfl⟩
 have bb:=hid bn
 clear bn
 have b1:(L==1)=false:=by simpa using k1
 have dp:(L==16)=false:=by simpa using k16
 have dm:(L==17)=false:=by simpa using k17
 have dq:(L==18)=false:=by simpa using k18
 have dk:(L==19)=false:=by simpa using k19
 go_upto_region 16 with fail
 go_cut [110] from 98 to 110 (fun vb wx=>vb=.bool BB/\V.drew=wx)
 case first =>
  refine tkb (S:=fun a=>a.cell? ⟨R,0,none⟩=some (.pointer (some ⟨h,0,none⟩))/\a.cell? ⟨R,1,none⟩=some (.slice p l.length c)/\(a.cell? ⟨Q,2,none⟩=some (.string J)/\a.cell? ⟨Q,3,none⟩=some (.string H))/\a.cell? ⟨Q,6,none⟩=some (.int .u64 I)/\a.cell? ⟨Q,1,none⟩=some (.int .i64 F)/\a.cell? ⟨Q,7,none⟩=some (.int .i64 t)) ab fun hA=>?_
  by_cases h0:F<0
  ·have hd:decide (F<0)=true:=xas h0
   have hb:BB=true:=by rw [<-bb.out];exact xas (xac h0)
   subst hb
   refine tkv 0 (.pointer (some ⟨Q,1,none⟩)) hA ?_
   simp only [Act.put,sz]
   refine tkv 1 (.int .i64 F) hA ?_
   simp only [Act.put,sz]
   refine tkv 2 (.bool true) hA ?_
   simp only [Act.put,sz]
   refine tkv 3 (.bool true) hA ?_
   simp only [Act.put,sz]
   refine yS (i:=4) rfl (by kernel_rfl) (by kernel_rfl) (by kernel_rfl) (fun _ _ _ h=>h) (by rfl) hA ?_
   simp only [Act.put,sz]
   refine yS (i:=5) rfl (by kernel_rfl) (by kernel_rfl) (by kernel_rfl) (fun _ _ _ h=>h) (by rfl) hA ?_
   simp only [Act.put,sz]
   refine yS (i:=6) rfl (by kernel_rfl) (by kernel_rfl) (by kernel_rfl) (fun _ _ _ h=>h) (by rfl) hA ?_
   simp only [Act.put,sz]
   refine yS (i:=7) rfl (by kernel_rfl) (by kernel_rfl) (by kernel_rfl) (fun _ _ _ h=>h) (by rfl) hA ?_
   simp only [Act.put,sz]
   refine yS (i:=8) rfl (by kernel_rfl) (by kernel_rfl) (by kernel_rfl) (fun _ _ _ h=>h) (by rfl) hA ?_
   simp only [Act.put,sz]
   refine yS (i:=9) rfl (by kernel_rfl) (by kernel_rfl) (by kernel_rfl) (fun _ _ _ h=>h) (by rfl) hA ?_
   simp only [Act.put,sz]
   refine yS (i:=10) rfl (by kernel_rfl) (by kernel_rfl) (by kernel_rfl) (fun _ _ _ h=>h) (by rfl) hA ?_
   simp only [Act.put,sz]
   refine yS (i:=11) rfl (by kernel_rfl) (by kernel_rfl) (by kernel_rfl) (fun _ _ _ h=>h) (by rfl) hA ?_
   simp only [Act.put,sz]
   refine tkv 12 (.bool true) hA ?_
   simp only [Act.put,sz]
   refine tkd ?_
   go_wp2_with fail
   go_meet
   exact ⟨rfl,rfl⟩
  have hd:decide (F<0)=false:=xar h0
  have hb:decide ((l.length:Int)<=F)=BB:=by rw [<-bb.out];exact decide_eq_decide.2 (by omega)
  refine tkv 0 (.pointer (some ⟨Q,1,none⟩)) hA ?_
  simp only [Act.put,sz]
  refine tkv 1 (.int .i64 F) hA ?_
  simp only [Act.put,sz]
  refine tkv 2 (.bool false) hA ?_
  simp only [Act.put,sz]
  refine tkv 3 (.bool false) hA ?_
  simp only [Act.put,sz]
  refine tkv 4 (.pointer (some ⟨Q,1,none⟩)) hA ?_
  simp only [Act.put,sz]
  refine tkv 5 (.int .i64 F) hA ?_
  simp only [Act.put,sz]
  refine tkv 6 (.pointer (some ⟨R,0,none⟩)) hA ?_
  simp only [Act.put,sz]
  refine tkv 7 (.pointer (some ⟨R,0,none⟩)) hA ?_
  simp only [Act.put,sz]
  refine tkv 8 (.pointer (some ⟨R,1,none⟩)) hA ?_
  simp only [Act.put,sz]
  refine tkv 9 (.slice p l.length c) hA ?_
  simp only [Act.put,sz]
  refine tkv 10 (.int .i64 l.length) hA ?_
  simp only [Act.put,sz]
  refine tkv 11 (.bool BB) hA ?_
  simp only [Act.put,sz]
  refine tkv 12 (.bool BB) hA ?_
  simp only [Act.put,sz]
  refine tkd ?_
  go_wp2_with fail
  go_meet
  exact ⟨rfl,rfl⟩
 obtain ⟨rfl,bw⟩:=hcut
 rw [<-bw]
 clear bw ab a0
 by_cases hox:(F<0∨(l.length:Int)<=F)
 ·obtain rfl:true=BB:=by rw [<-bb.out];exact (xas hox).symm
  have be:Sto N (doB Q C++Z) Y h gs r.S V.drew:=HV.out.on (zG (zaR V.heap.size V) 1)
  have m:=wY.of_sto be
  have M:V.heap.size<=V.drew.heap.size:=(zG (zaR V.heap.size V) 1).size
  have aw:Hid (({},⟨r.S,r.ids⟩)=RR):=hid (by
   rw [<-HR.out]
   unfold kU
   simp only [k1,k16,k17,k18,k19,if_false]
   by_cases h0:F<0
   ·rw [xae h0]
   have hl:=G.out.len
   rw [xag h0,xaz (by omega)])
  obtain ⟨E,j,s,g0,g1,g2,T,g4,g5,g6,g7,g8,g9,ad,ac,ae,af⟩:=bL (ot:={}) (P:=fun j=>nT N ZU (Y+1) h R gs RR w (.returned (.agg (zX {}).toArray)) j) (zBH be) (fun j f=>by rw [<-aw.out];exact zAp G.out HQ.out ai.out (ot:={}) M (m.mono (xax _)) (fun _ _ e=>e) f (yK _ _) rfl)
  clear be m M hox
  generalize V.drew=W1 at *
  go_wp2_with (refine zJ rfl 52 _ _ rfl (Q+1) 0 (zX {}).toArray rfl rfl E.out.1 Tryz.outSize E.out.2 j s.out.1 ?_)
  exact zaB (v:=.agg (zX {}).toArray) (by simp [results,results9,go_sem,zX,g0,g1,g2,T,g4,g5,g6,g7,g8,g9,ad,ac,ae,af]) rfl s.out.2.1
 obtain rfl:false=BB:=by rw [<-bb.out];exact (xar hox).symm
 obtain ⟨U,rfl⟩:∃U:Nat,F=(U:Int):=⟨F.toNat,by omega⟩
 have da:U<l.length:=by omega
 obtain ⟨gg,b7,o7,ii,tx,cy,co,bz,cf,bu⟩:=G.out.pick da ⟨L,U,(J,H),vo.map Fx.fld,pt,I,t⟩ rfl ⟨k1,k16,k17,k18,k19⟩
 subst cy
 obtain ⟨CS,bj⟩:∃CS,mH r.S ii tx ⟨L,U,(J,H),vo.map Fx.fld,pt,I,t⟩=CS:=⟨_,rfl⟩
 have aw:Hid ((CS.1,⟨CS.2,r.ids⟩)=RR):=hid (by rw [<-HR.out,<-bj,bu])
 have ct:Hid (∀n,CC 11 #[.pointer (some ⟨gg,0,none⟩),.agg #[.int .i64 L,.int .i64 U,.string J,.string H,.slice vp vo.length vc,.slice pp pt.length pc,.int .u64 I,.int .i64 t]] (V.drewN n) fun e a=>zHz N (doB Q C++Z) (Y+1) h gs CS (V.drewN n) e a):=hid fun n=>by rw [<-bj];exact zH3 (HV.out.on (zG (zaR V.heap.size V) n)) hn bz cf ⟨L,U,J,H,vp,vc,vo,pp,pc,pt,I,t⟩ (HO.out.on (zG (zaR V.heap.size V) n))
 have dj:=hid co
 have HK:Hid (∀(u a:World) (nr':Nat) (gs':List Nat) (S':Sv),Sto N (doB Q C++Z) nr' h gs' S' u->Fr (fun b=>b=Q+1) u a->(a.cell? ⟨R,1,none⟩=some (.slice (some ⟨b7,o7,none⟩) l.length c)/\a.cell? ⟨b7,o7+U,none⟩=some (.pointer (some ⟨gg,0,none⟩))/\a.cell? ⟨Q,0,none⟩=some (.int .i64 L)/\a.cell? ⟨Q,1,none⟩=some (.int .i64 U)/\a.cell? ⟨Q,2,none⟩=some (.string J)/\a.cell? ⟨Q,3,none⟩=some (.string H)/\a.cell? ⟨Q,4,none⟩=some (.slice vp vo.length vc)/\a.cell? ⟨Q,5,none⟩=some (.slice pp pt.length pc)/\a.cell? ⟨Q,6,none⟩=some (.int .u64 I)/\a.cell? ⟨Q,7,none⟩=some (.int .i64 t))):=hid fun u a _ _ _ y f=>by
  obtain ⟨_,h1,_⟩:=ag.out _ _ _ _ _ y f
  have eQ:=y.got (k:=Q) (b:=.cells C 40 (0,0)) (by unfold doB;simp)
  obtain ⟨b,hb⟩:=(G.out.own b7 rfl).2.1
  have e7:=y.got (zaG (xaf hb))
  have h7:=G.out.olt (k:=b7) rfl
  have:=HQ.out
  have q:a.heap[Q]? = some (.cells #[.int .i64 L,.int .i64 U,.string J,.string H,.slice vp vo.length vc,.slice pp pt.length pc,.int .u64 I,.int .i64 t] 40 (0,0)):=by rw [f.block _ (Array.getElem?_eq_some_iff.1 eQ).1 (by omega),eQ,<-HC.out]
  refine ⟨h1,(xap (((f.block _ (Array.getElem?_eq_some_iff.1 e7).1 (by omega)).trans e7).trans (G.out.sto.got hb).symm)).trans dj.out,?_,?_,?_,?_,?_,?_,?_,?_⟩<;>(rw [zaC q];rfl)
 have ab:=HK.out V.drew _ _ _ _ (HV.out.on (zG (zaR V.heap.size V) 1)) (Fr.refl _ _)
 clear co bz cf bu bj hox k1 k16 k17 k18 k19
 go_upto_region 18 with fail
 refine tkb (S:=fun a=>a.cell? ⟨R,1,none⟩=some (.slice (some ⟨b7,o7,none⟩) l.length c)/\a.cell? ⟨b7,o7+U,none⟩=some (.pointer (some ⟨gg,0,none⟩))/\a.cell? ⟨Q,0,none⟩=some (.int .i64 L)/\a.cell? ⟨Q,1,none⟩=some (.int .i64 U)/\a.cell? ⟨Q,2,none⟩=some (.string J)/\a.cell? ⟨Q,3,none⟩=some (.string H)/\a.cell? ⟨Q,4,none⟩=some (.slice vp vo.length vc)/\a.cell? ⟨Q,5,none⟩=some (.slice pp pt.length pc)/\a.cell? ⟨Q,6,none⟩=some (.int .u64 I)/\a.cell? ⟨Q,7,none⟩=some (.int .i64 t)) ab fun hA=>?_
 refine tkv 0 (.pointer (some ⟨R,0,none⟩)) hA ?_
 simp only [Act.put,sz]
 refine tkv 1 (.pointer (some ⟨R,0,none⟩)) hA ?_
 simp only [Act.put,sz]
 refine tkv 2 (.pointer (some ⟨R,1,none⟩)) hA ?_
 simp only [Act.put,sz]
 refine tkv 3 (.slice (some ⟨b7,o7,none⟩) l.length c) hA ?_
 simp only [Act.put,sz]
 refine tkv 4 (.pointer (some ⟨Q,1,none⟩)) hA ?_
 simp only [Act.put,sz]
 refine tkv 5 (.int .i64 U) hA ?_
 simp only [Act.put,sz]
 refine tkv 6 (.pointer (some ⟨b7,o7+U,none⟩)) hA ?_
 simp only [Act.put,sz]
 refine tkv 7 (.pointer (some ⟨gg,0,none⟩)) hA ?_
 simp only [Act.put,sz]
 refine tkv 8 (.agg #[.int .i64 L,.int .i64 U,.string J,.string H,.slice vp vo.length vc,.slice pp pt.length pc,.int .u64 I,.int .i64 t]) hA ?_
 simp only [Act.put,sz]
 clear hA ab
 refine xaA (rs:=[9]) (by kernel_rfl) (by simp) ?_
 refine xao (zB rfl) (fun K d=>?_) xau
 rw [xae (by rfl)]
 go_simp
 refine (ct.out 2).mono ?_
 rintro e5 w5 ⟨ot,A,w1,rfl,ce,hr,cm,m⟩
 have M:V.heap.size<=A:=zaU (zG (zaR V.heap.size V) 2).size cm
 obtain ⟨E,j,s,g0,g1,g2,T,g4,g5,g6,g7,g8,g9,ad,ac,ae,af⟩:=bL (ot:=ot) (P:=fun j=>nT N ZU (Y+1) h R gs RR w (.returned (.agg (zX ot).toArray)) j) (zBH m.sto) (fun j f=>by rw [<-aw.out];exact zAp G.out HQ.out ai.out (ot:=ot) M m (fun _ _ e=>e) f (ce) hr)
 have aj:=HK.out _ _ _ _ _ m.sto (Fr.refl _ _)
 have al:=HK.out _ _ _ _ _ m.sto s.out.2.2
 clear m ce hr cm M
 go_wp2_with fail
 refine d.out _ _ aj (fun hA=>?_)
 clear d K
 try simp only [Act.put,sz]
 clear hA aj
 refine xaA (rs:=[10]) (by kernel_rfl) (by simp) ?_
 refine xao (zB rfl) (fun K d=>?_) xau
 rw [xae (by rfl)]
 refine xbH 52 _ _ rfl (Q+1) 0 (zX ot).toArray rfl rfl E.out.1 Tryz.outSize E.out.2 ?_
 rw [s.out.1]
 refine d.out _ _ al (fun hA=>?_)
 clear d K
 try simp only [Act.put,sz]
 refine tkd ?_
 clear hA al
 go_wp2_with fail
 exact zaB (v:=.agg (zX ot).toArray) (by simp [results,results9,go_sem,zX,g0,g1,g2,T,g4,g5,g6,g7,g8,g9,ad,ac,ae,af]) rfl s.out.2.1
section
variable {w:World}
theorem zLk {d:World} {c h:Nat} {Z:List (Nat × Obj)} {b:List Nat} {S:Sv} (x:Sto d Z c h b S w):∃R V,Hid (w.heap.size=R/\w.alloc (.cells #[.pointer (some ⟨h,0,none⟩),.slice none 0 0] 34)=V)/\Hid (zE7 d Z c h R b ⟨S,[]⟩ V):=by
 have f:Bw w (w.alloc (.cells #[jp h,sc none 0 0] 34)):=zaQ;have g:=xab w (.cells #[jp h,sc none 0 0] 34);have y:=x.pins f [(w.z,.cells #[jp h,sc none 0 0] 34 (0,0))] fun p a=>by grind
 refine ⟨_,_,hid ⟨rfl,rfl⟩,hid ⟨_,sc none 0 0,[],y,fun p a=>zaG (xaf a),zaG (xac (List.mem_singleton.2 rfl)),yG.nil KTx y.bel y.bel.size,rfl,(fun j i hj=>by simp at hj),(fun k e=>by cases e),(fun p a=>?_),x.bel.size⟩⟩;have:=x.low a;omega
theorem zMn (o:Ov):(vN o).toArray.all (·.oneCell')=true:=xbF (KOv.one o)
theorem Tryz.opSize:(prog.info? 40).map (·.size)=some 8:=by kernel_rfl
theorem zPX {p:Option Addr} {c:Nat} {l:List Ov} (h:KOv.Is w (.slice p l.length c) l) {i:Nat} (hi:i<l.length):∃b a,p=some ⟨b,a,none⟩/\w.rangeAt b (a+i * 8) (vN l[i]):=by
 obtain ⟨m,k,e,h⟩:=h;injection e with e1 _ _
 subst e1
 rcases h with h|⟨b,a,g,f⟩
 ·grind
 exact ⟨b,a,g,fun j v d=>f i hi j v d⟩
end
def zEB (A:Nat) (w4:World):List (Nat × Obj):=(List.range w4.heap.size).filterMap fun k=>if A<=k then (w4.heap[k]?).map (fun b=>(k,b)) else none
theorem zE2 {A:Nat} {w4:World} {p:Nat × Obj}:p∈zEB A w4↔A<=p.1/\w4.heap[p.1]? = some p.2:=by
 unfold zEB;rw [List.mem_filterMap];constructor
 ·rintro ⟨k,_,e⟩
  split at e
  ·next c =>
   rw [Option.map_eq_some_iff] at e;obtain ⟨b,a,rfl⟩:=e;exact ⟨c,a⟩
  cases e
 rintro ⟨c,a⟩;exact ⟨p.1,List.mem_range.2 (gA a).1,by rw [xae c,a];rfl⟩
theorem zPl {b w4 w':World} {A g h:Nat} {f:List Nat} {S:Sv} (c:Below b.heap.size b w4) (x:Sto b (zEB A w4) g h f S w') (i:A<w4.heap.size):Fr (fun k=>¬ (A<=k/\k<w4.heap.size)) w4 w':=by
 have d:∀k,A<=k->k<w4.heap.size->w'.heap[k]? = w4.heap[k]?:=fun k e a=>(x.got (zE2.2 ⟨e,xb8 a⟩)).trans (xb8 a).symm
 have hb':=x.bel;refine ⟨hb'.os.trans c.os.symm,hb'.tape.trans c.tape.symm,hb'.output.trans c.output.symm,?_,fun k e a=>?_⟩
 ·have:=d (w4.heap.size-1) (by omega) (by omega);rw [xb8 (show w4.heap.size-1<w4.heap.size by omega)] at this;have:=(gA this).1;omega
 have:=Classical.not_not.1 a;exact d k this.1 this.2
theorem jD (w:World) (T:TypeId) (zs ds:List Value) (c:ds.length=zs.length):∃B V W4,Hid (w.heap.size=B/\w.alloc (.cells zs.toArray T)=V)/\Hid (V.there B 0 ds.toArray.size)/\Hid (V.setCells B 0 ds.toArray.toList=W4)/\Hid (W4.heap[B]? = some (.cells ds.toArray T (0,0))/\Below w.heap.size w W4/\Below w.heap.size w V):=by
 have a:Bw w (w.alloc (.cells zs.toArray T)):=zaQ;have b:=xab w (.cells zs.toArray T);obtain ⟨e,d⟩:=tH (ds:=ds) b (by simpa using c) rfl;refine ⟨_,_,_,hid ⟨rfl,rfl⟩,hid ?_,hid rfl,hid ⟨e,a.trans (d.below a.size fun k f=>by omega),a⟩⟩;have:=(xQ (cs:=zs) b).2
 rwa [show zs.length=ds.toArray.size by simpa using c.symm] at this
theorem zJS (x:Vx):(zF x).toArray.all (·.oneCell')=true:=xbF (KV.one x)
theorem zQI {α:Type} {K:zC α} {N:Nat} {w:World} {v:Value} {l:List α} (h:K.Own N w v l) (a:l.length≠0):N<w.heap.size:=by
 rcases h.2 with ⟨_,b⟩|⟨g,c,f,_,e,d,_⟩
 ·exact absurd b a
 have:=(gA d).1;omega
theorem Tryz.infoVz15:(prog.info? 42).map (fun i=>(i.zero,i.size,i.bytes))=some (some (.agg #[.int .i64 0,.int .u64 0,.int .i64 0,.bool false,.slice none 0 0]),5,56):=by kernel_rfl
theorem Tryz.infoBz15:(prog.info? 4).map (fun i=>(i.zero,i.size,i.bytes))=some (some (.bool false),1,1):=by kernel_rfl
theorem Tryz.infoKz15:(prog.info? 36).map (fun i=>(i.zero,i.size,i.bytes))=some (some (.agg #[.string ⟨#[]⟩,.string ⟨#[]⟩]),2,32):=by kernel_rfl
theorem Tryz.keySize:(prog.info? 36).map (·.size)=some 2:=by kernel_rfl
def KBz:zC Bool:=⟨4,1,fun x=>[.bool x],fun _=>rfl,by decide,fun x u hu=>by simp at hu;subst hu;rfl⟩
theorem zBF (k:Ky):(xP k).toArray.all (·.oneCell')=true:=xbF (KK.one k)
theorem fO {α:Type} {K:zC α} {W0:World} {Z:List (Nat × Obj)} {nr h:Nat} {gs:List Nat} {S:Sv} {w w':World} {d:Nat} {j:List Nat} {l:List α} {i:Sv} {v:Value} (r:yG K W0.heap.size W0 v l w) (x:Sto W0 Z nr h gs S w) (a:Sto W0 Z d h j i w') (g:∀k,v.ownBlock=some k->∃b,(k,b)∈Z):yG K W0.heap.size W0 v l w':=⟨fG r.own fun k e=>by obtain ⟨b,c⟩:=g k e;exact (a.got c).trans (x.got c).symm,a.bel,a.bel.size⟩
def KeB (W0:World) (T:List (Nat × Obj)) (nr h R:Nat) (v:Value) (ks:List Ky) (gs:List Nat) (r:Rn) (vt:Value) (l:List Nat) (w:World):Prop:=∃ZU Z,nE W0 ZU nr h R gs r Z vt l w/\yG KK W0.heap.size W0 v ks w/\(∀k,v.ownBlock=some k->∃b,(k,b)∈ZU)/\∀p∈T,p∈ZU
def uQ (W0:World) (T:List (Nat × Obj)) (nr h R:Nat) (v:Value) (ks:List Ky) (gs:List Nat) (r:Rn) (w:World):Prop:=∃vt l,KeB W0 T nr h R v ks gs r vt l w
section
variable {W0:World} {T:List (Nat × Obj)} {nr h R:Nat} {v:Value} {ks:List Ky} {gs:List Nat} {r:Rn} {vt:Value} {l:List Nat} {w w':World}
theorem uQ.start (x:zE7 W0 [] nr h R gs r w):uQ W0 [] nr h R (.slice none 0 0) [] gs r w:=by
 obtain ⟨Z,vt,l,x⟩:=x;exact ⟨vt,l,[],Z,x,yG.nil KK x.sto.bel x.sto.bel.size,(fun k a=>by cases a),fun p b=>b⟩
theorem KeB.turn {c:Nat} {a:List Nat} {d:Sv} (x:KeB W0 T nr h R v ks gs r vt l w) (hs:∀Z,Sto W0 Z nr h gs r.S w->Sto W0 Z c h a d w') (e:∀i g:Nat,gs[i]? = some g->a[i]? = some g):KeB W0 T c h R v ks a ⟨d,r.ids⟩ vt l w':=by
 obtain ⟨m,Z,x,y,z,t⟩:=x;have s:=hs Z x.sto;exact ⟨m,Z,x.step s e,fO y x.sto s fun k j=>by obtain ⟨b,hb⟩:=z k j;exact ⟨b,x.sub _ hb⟩,z,t⟩
theorem KeB.on (x:KeB W0 T nr h R v ks gs r vt l w) (a:Below w.heap.size w w'):KeB W0 T nr h R v ks gs r vt l w':=x.turn (fun _ s=>s.on a) fun _ _ e=>e
theorem uQ.on (x:uQ W0 T nr h R v ks gs r w) (a:Below w.heap.size w w'):uQ W0 T nr h R v ks gs r w':=by
 obtain ⟨vt,l,x⟩:=x;exact ⟨vt,l,x.on a⟩
theorem KeB.sto (x:KeB W0 T nr h R v ks gs r vt l w):Sto W0 T nr h gs r.S w:=by
 obtain ⟨b,Z,x,y,z,t⟩:=x;exact x.sto.sub fun p a=>x.sub p (t p a)
theorem uQ.sto (x:uQ W0 T nr h R v ks gs r w):Sto W0 T nr h gs r.S w:=x.choose_spec.choose_spec.sto
theorem KeB.only (x:KeB W0 T nr h R v ks gs r vt l w):KeB W0 [] nr h R v ks gs r vt l w:=by
 obtain ⟨a,Z,x,y,z,_⟩:=x;exact ⟨a,Z,x,y,z,fun p b=>by cases b⟩
theorem uQ.mono {a:Nat} (x:uQ W0 T nr h R v ks gs r w) (b:nr<=a):uQ W0 T a h R v ks gs r w:=by
 obtain ⟨vt,l,x⟩:=x;exact ⟨vt,l,x.turn (fun _ s=>s.mono b) fun _ _ e=>e⟩
theorem KeB.told {X:World} (x:KeB W0 [] nr h R v ks gs r vt l X) (d:Below X.heap.size X w):KeB W0 (zEB X.heap.size w) nr h R v ks gs r vt l w:=by
 obtain ⟨i,Z,x,y,z,_⟩:=x;have c:∀p∈zEB X.z w,X.z<=p.1/\w.heap[p.1]? = some p.2:=fun p a=>zE2.1 a
 have s:=x.sto.pins d _ c;refine ⟨_,_,x.told s (fun _ _ e=>e) fun p a=>(c p a).1,y.on d,fun k g=>?_,fun p a=>zaG (xac a)⟩;obtain ⟨b,q⟩:=z k g;exact ⟨b,zaG (xaf q)⟩
theorem uQ.pin {k:Nat} {b:Obj} (x:uQ W0 [] nr h R v ks gs r w) (d:Below w.heap.size w w') (i:w.heap.size<=k) (g:w'.heap[k]? = some b):uQ W0 [(k,b)] nr h R v ks gs r w':=by
 obtain ⟨vt,l,m,Z,x,y,z,_⟩:=x;have c:∀p∈[(k,b)],w.z<=p.1/\w'.heap[p.1]? = some p.2:=fun p a=>by rw [List.mem_singleton.1 a];exact ⟨i,g⟩
 have s:=x.sto.pins d _ c;refine ⟨vt,l,_,_,x.told s (fun _ _ e=>e) fun p a=>(c p a).1,y.on d,fun j hj=>?_,fun p a=>zaG (xac a)⟩;obtain ⟨b,q⟩:=z j hj;exact ⟨b,zaG (xaf q)⟩
theorem uQ.run (x:uQ W0 T nr h R v ks gs r w):∃a,zE7 W0 a nr h R gs r w/\∀(c:Nat) (e:List Nat) (d:Rn) (w':World),zE7 W0 a c h R e d w'->uQ W0 T c h R v ks e d w':=by
 obtain ⟨vt,l,a,Z,x,y,z,t⟩:=x;refine ⟨a,⟨Z,vt,l,x⟩,fun c e d w' b=>?_⟩;obtain ⟨Z',vt',l',b⟩:=b;exact ⟨vt',l',a,Z',b,fO y (x.sto.sub x.sub) (b.sto.sub b.sub) z,z,t⟩
theorem uQ.only (x:uQ W0 T nr h R v ks gs r w):uQ W0 [] nr h R v ks gs r w:=by
 obtain ⟨vt,l,x⟩:=x;exact ⟨vt,l,x.only⟩
theorem uQ.row (x:uQ W0 T nr h R v ks gs r w):yG KK W0.heap.size W0 v ks w:=by
 obtain ⟨_,_,_,_,_,y,_⟩:=x;exact y
theorem uQ.key {p:Option Addr} {n c:Nat} (x:uQ W0 T nr h R (.slice p n c) ks gs r w) {i:Nat} (hi:i<ks.length):∃b a,p=some ⟨b,a,none⟩/\w.rangeAt b (a+i * 2) (xP ks[i]):=by
 obtain ⟨_,_,_,_,_,r,_⟩:=x;obtain ⟨p',c',he,h⟩:=r.is;injection he with e1 _ _
 subst e1
 rcases h with h|⟨b,a,g,d⟩
 ·grind
 exact ⟨b,a,g,fun j v e=>d i hi j v e⟩
theorem KeB.call (x:KeB W0 T nr h R v ks gs r vt l w):∃Z,Sto W0 Z nr h gs r.S w/\∀(a:Nat) (c:Sv) (w':World),Sto W0 Z a h gs c w'->KeB W0 T a h R v ks gs ⟨c,r.ids⟩ vt l w':=by
 obtain ⟨g,Z,x,y,z,t⟩:=x;exact ⟨Z,x.sto,fun a c w' s=>⟨g,Z,x.step s fun _ _ e=>e,fO y x.sto s fun k d=>by obtain ⟨b,hb⟩:=z k d;exact ⟨b,x.sub _ hb⟩,z,t⟩⟩
theorem KeB.txs (x:KeB W0 T nr h R v ks gs r vt l w):(∃p c,vt=.slice p l.length c/\w.cell? ⟨R,1,none⟩=some (.slice p l.length c)/\∀j,(hj:j<l.length)->∃b a,p=some ⟨b,a,none⟩/\w.cell? ⟨b,a+j,none⟩=some (.pointer (some ⟨l[j],0,none⟩)))/\l.length=r.ids.length/\∀j i:Nat,r.ids[j]? = some i->∃g:Nat,l[j]? = some g/\gs[i]? = some g:=by
 obtain ⟨k,Z,x,y,z,_⟩:=x;obtain ⟨p,c,rfl⟩:=x.shape;refine ⟨⟨p,c,rfl,by rw [zaC x.cells];rfl,fun j hj=>?_⟩,x.len,x.ids⟩;obtain ⟨p',c',he,h⟩:=x.row.is;injection he with e1 _ _
 subst e1
 rcases h with h|⟨b,a,e,d⟩
 ·grind
 have:=d j hj 0 _ rfl;exact ⟨b,a,e,by grind [KTx]⟩
theorem KeB.tx (x:KeB W0 T nr h R v ks gs r vt l w) (a:r.ids=List.range r.S.txs.length) {j:Nat} (hj:j<l.length):∃t,gs[j]? = some l[j]/\r.S.txs[j]? = some t:=by
 obtain ⟨_,c,b⟩:=x.txs;rw [a,xbR] at c;obtain ⟨g,e1,e2⟩:=b j j (by rw [a,List.getElem?_range (by omega)]);rw [xai hj] at e1;exact ⟨_,by rw [e2,<-e1],xai (by omega)⟩
theorem uQ.push {k:Ky} {g c:Nat} (x:uQ W0 [] nr h R v ks gs r w) (n:yG KK W0.heap.size W0 (.slice (some ⟨g,0,none⟩) (ks.length+1) c) (ks++[k]) w') (t:w.grownBy w' v.ownBlock) (m:v.ownBlock=some g∨g=w.heap.size):uQ W0 [] nr h R (.slice (some ⟨g,0,none⟩) (ks.length+1) c) (ks++[k]) gs r w':=by
 obtain ⟨vt,l,A,Z,x,y,z,_⟩:=x;have u:g<w'.heap.size:=(zaW (show w'.ownsRow W0.heap.size KK.T KK.k _ _ (KK.cells (ks++[k])) from n.own) g rfl).2;obtain ⟨b',s⟩:=x.sto.grown2 (v:=v) (fun j hj=>⟨(zaW (show w.ownsRow W0.heap.size KK.T KK.k _ _ (KK.cells ks) from y.own) j hj).1,by obtain ⟨b,d⟩:=z j hj;exact ⟨b,x.sub _ d⟩⟩) t m u;have o:¬ v.ownBlock=some R:=fun e=>by obtain ⟨b,d⟩:=z R e;exact x.off _ d rfl
 have i:∀j,vt.ownBlock=some j->¬ v.ownBlock=some j:=fun j hj e=>by obtain ⟨b,d⟩:=z j e;exact (x.own j hj).2.2 _ d rfl
 have q:∀j,j<w.heap.size->¬ v.ownBlock=some j->g≠j:=fun j hj B e=>by subst e;exact m.elim B (by omega)
 have s':Sto W0 (Z.filter fun p=>!decide (v.ownBlock=some p.1)) nr h gs r.S w':=s.sub fun p a=>xay _ a
 have C:Sto W0 (Z.filter fun p=>!decide (v.ownBlock=some p.1)) nr h gs r.S w:=x.sto.sub fun p a=>(List.mem_filter.1 a).1
 refine ⟨vt,l,(g,b')::A.filter fun p=>!decide (v.ownBlock=some p.1),_,⟨s,fun p a=>?_,xay _ (List.mem_filter.2 ⟨x.box,by simpa using o⟩),fO x.row C s' (fun j hj=>?_),x.len,x.ids,fun j hj=>⟨(x.own j hj).1,?_,fun p a=>?_⟩,fun p a=>?_,x.base⟩,n,fun j hj=>?_,fun p a=>by cases a⟩
 ·rcases List.mem_cons.1 a with rfl|a
  ·exact zaH
  exact xay _ (List.mem_filter.2 ⟨x.sub _ (List.mem_filter.1 a).1,(List.mem_filter.1 a).2⟩)
 ·obtain ⟨b,d⟩:=(x.own j hj).2.1;exact ⟨b,List.mem_filter.2 ⟨d,by simpa using i j hj⟩⟩
 ·obtain ⟨b,d⟩:=(x.own j hj).2.1;exact ⟨b,xay _ (List.mem_filter.2 ⟨d,by simpa using i j hj⟩)⟩
 ·rcases List.mem_cons.1 a with rfl|a
  ·exact q j (x.olt hj) (i j hj)
  exact (x.own j hj).2.2 p (List.mem_filter.1 a).1
 ·rcases List.mem_cons.1 a with rfl|a
  ·exact q R x.lt o
  exact x.off p (List.mem_filter.1 a).1
 have:j=g:=zEN hj;exact ⟨b',by rw [this];exact zaH⟩
end
theorem zED {α:Type} {K:zC α} (m:K.T≠82) (g:K.T≠9) {N M:Nat} {w w':World} {s u:Value} {o:List Fx} {l:List α} (h:zW N w s o) (c:K.Own M w u l) (b:w.grownBy w' u.ownBlock):zW N w' s o:=yC h (Fr.of_grown b fun k a=>a) fun k a e=>by
  obtain ⟨d,t,j,i⟩:=tE h a;obtain ⟨cs',q3⟩:=zV (show w.ownsRow M K.T K.k u l.length (K.cells l) from c) e
  grind
structure kR (X:World) (ks:List Ky) (f:Ky->Option Vr) (ia ib:Nat) (vw:Value) (lw:List Vx) (vt:Value) (lt:List Bool) (w:World):Prop where
 a:yG KV X.heap.size X vw lw w
 b:yG KBz X.heap.size X vt lt w
 each:∀z∈lw,zW X.heap.size w z.sl z.o/\yW z.o
 ver:lw.map Vx.ver=(ks.take ia).map fun k=>(f k).getD zeroV
 ok:lt=(ks.take ib).map fun k=>(f k).isSome
section
variable {X:World} {ks:List Ky} {f:Ky→Option Vr} {ia ib:Nat} {vw vt:Value} {lw:List Vx} {lt:List Bool} {w w':World}
theorem kR.start (X:World) (ks:List Ky) (f:Ky->Option Vr):kR X ks f 0 0 (.slice none 0 0) [] (.slice none 0 0) [] X:=⟨yG.nil KV (zaR _ _) (zaL _),yG.nil KBz (zaR _ _) (zaL _),(fun z a=>by cases a),rfl,rfl⟩
theorem kR.on (x:kR X ks f ia ib vw lw vt lt w) (c:Below w.heap.size w w'):kR X ks f ia ib vw lw vt lt w':=⟨x.a.on c,x.b.on c,fun z d=>⟨(x.each z d).1.on c,(x.each z d).2⟩,x.ver,x.ok⟩
theorem kR.pushA {g c:Nat} {z:Vx} (x:kR X ks f ia ib vw lw vt lt w) (d:yG KV X.heap.size X (.slice (some ⟨g,0,none⟩) (lw.length+1) c) (lw++[z]) w') (e:w.grownBy w' vw.ownBlock) (n:zW X.heap.size w z.sl z.o) (i:yW z.o) (hi:ia<ks.length) (j:z.ver=(f ks[ia]).getD zeroV):kR X ks f (ia+1) ib (.slice (some ⟨g,0,none⟩) (lw.length+1) c) (lw++[z]) vt lt w':=by
 have hj:∀{s:Value} {o:List Fx},zW X.z w s o->zW X.z w' s o:=fun q=>zED (K:=KV) (by decide) (by decide) q x.a.own e
 refine ⟨d,⟨mA (show w.ownsRow X.z KBz.T KBz.k vt lt.length (KBz.cells lt) from x.b.own) (show w.ownsRow X.z KV.T KV.k vw lw.length (KV.cells lw) from x.a.own) (by decide) e,d.bel,d.base⟩,fun y m=>?_,?_,x.ok⟩
 ·rcases List.mem_append.1 m with q|q
  ·exact ⟨hj (x.each y q).1,(x.each y q).2⟩
  rw [List.mem_singleton.1 q];exact ⟨hj n,i⟩
 rw [xak,x.ver,zaK hi,xak];simp [j]
theorem kR.pushB {g c:Nat} {b:Bool} (x:kR X ks f ia ib vw lw vt lt w) (d:yG KBz X.heap.size X (.slice (some ⟨g,0,none⟩) (lt.length+1) c) (lt++[b]) w') (e:w.grownBy w' vt.ownBlock) (hi:ib<ks.length) (j:b=(f ks[ib]).isSome):kR X ks f ia (ib+1) vw lw (.slice (some ⟨g,0,none⟩) (lt.length+1) c) (lt++[b]) w':=by
 refine ⟨⟨mA (show w.ownsRow X.z KV.T KV.k vw lw.length (KV.cells lw) from x.a.own) (show w.ownsRow X.z KBz.T KBz.k vt lt.length (KBz.cells lt) from x.b.own) (by decide) e,d.bel,d.base⟩,d,fun y i=>⟨zED (K:=KBz) (by decide) (by decide) (x.each y i).1 x.b.own e,(x.each y i).2⟩,x.ver,?_⟩;rw [x.ok,zaK hi,xak,j];rfl
theorem kR.lens (x:kR X ks f ia ib vw lw vt lt w) (a:ia<=ks.length) (b:ib<=ks.length):lw.length=ia/\lt.length=ib:=by
 have:=xad List.length x.ver;have:=xad List.length x.ok;simp only [zaM,xa2] at *;omega
theorem kR.read {p:World} {nr h:Nat} {gs:List Nat} {S:Sv} {y t:Option Addr} {D E C B:Nat} (x:kR X ks f ks.length ks.length (.slice y D C) lw (.slice t E B) lt w) (K:Below p.heap.size p w) (s:Sto p (zEB X.heap.size w) nr h gs S w') {i:Nat} (hi:i<ks.length):∃(z:Vx) (b o d m:Nat),y=some ⟨b,o,none⟩/\w'.rangeAt b (o+i * 5) (zF z)/\wH w' z.sl z.o/\yW z.o/\z.ver=(f ks[i]).getD zeroV/\t=some ⟨d,m,none⟩/\w'.cell? ⟨d,m+i,none⟩=some (.bool (f ks[i]).isSome):=by
 obtain ⟨Q,N⟩:=x.lens (zaL _) (zaL _);have A:i<lw.length:=by omega
 have F:i<lt.length:=by omega
 have L:X.z<w.z:=zQI x.a.own (by omega);have u:=zPl K s L;have M:KV.Is w' (sc y D C) lw:=zC.own_is (u.row (show w.ownsRow X.z KV.T KV.k _ lw.length (KV.cells lw) from x.a.own) fun k c q=>q (zaW (show w.ownsRow X.z KV.T KV.k _ lw.length (KV.cells lw) from x.a.own) k c));have I:KBz.Is w' (sc t E B) lt:=zC.own_is (u.row (show w.ownsRow X.z KBz.T KBz.k _ lt.length (KBz.cells lt) from x.b.own) fun k c q=>q (zaW (show w.ownsRow X.z KBz.T KBz.k _ lt.length (KBz.cells lt) from x.b.own) k c));obtain ⟨P,O,n,e⟩:=M;obtain ⟨p2,c2,e2,g⟩:=I;injection n with n _ _
 injection e2 with e2 _ _
 subst n;subst e2
 rcases e with e|⟨b,o,rfl,e⟩
 ·grind
 rcases g with g|⟨d,m,rfl,g⟩
 ·grind
 obtain ⟨hj,G⟩:=x.each _ (zaN A);refine ⟨lw[i],b,o,d,m,rfl,fun j v H=>e i A j v H,(yC hj u fun k c q=>q (yL hj k c)).1.is,G,?_,rfl,?_⟩
 ·have:=xad (fun q=>q[i]?) x.ver;simp only [List.take_length,xby,xai A,xai hi,xbJ,Option.some.injEq] at this;exact this
 have q:=g i F 0 _ rfl
 have J:lt[i]=(f ks[i]).isSome:=by
  have:=xad (fun q=>q[i]?) x.ok;simp only [List.take_length,xby,xai F,xai hi,xbJ,Option.some.injEq] at this;exact this
 rw [<-J]
 grind [KBz]
end
section
variable {ks:List Ky} {k:Ky} {m q:Nat}
def zRp (w1:World) (h R:Nat) (v:Value) (ks:List Ky) (i:Nat) (w:World):Prop:=∃gs r,uQ w1 [] i h R v ks gs r w/\RnA 4096 r/\vY ks r.S/\(∀k∈ks,yE k)/\r.ids.length<=i/\ks.length<=i
theorem zPf {a b:ByteArray}:a.toList=b.toList↔a=b:=⟨fun q=>Classical.byContradiction fun e=>absurd q (by simpa using zPH e),xad _⟩
theorem zM5 (h:m<ks.length):qW (ks.take (m+1)) k=(qW (ks.take m) k||decide (ks[m]=k)):=by
 unfold qW;rw [zaK h,xbM];simp
theorem zLv (h:m<=q) (a:qW (ks.take m) k=true):qW (ks.take q) k=true:=by
 have:=mG.1 a;rw [<-Nat.min_eq_left h,<-List.take_take] at this;exact mG.2 (List.mem_of_mem_take this)
theorem zGa {P:Ky->Bool} (h:ks[q]? = some k):zA1 P ks (q+1)=zA1 P ks q+if (P k && !qW (ks.take q) k)=true then 1 else 0:=by rw [zA1,h]
theorem zJO (w : World) (po : Option Addr) (co : Nat) (os : List Ov) (ho : KOv.Is w (.slice po os.length co) os) (hoi : ∀ x ∈ os, zDk w x) (hol : os.length <= 1048576) (t : Int) (ht0 : 0 <= t) (ht1 : t <= 18446744073709551615):CC 6 #[.slice po os.length co, .int .u64 t] w fun e w' => e = .returned (.bool true) /\ Below w.heap.size w w' := by
  have HIN : Hid (∀ w', Bw w w' -> KOv.Is w' (sc po os.length co) os /\ ∀ x ∈ os, zDk w' x) := hid fun w' hW => ⟨zC.is_kept ho hW, fun x hx => (hoi x hx).on hW⟩
  clear ho hoi;go_enter func6, ntmps6;go_wp2_with fail;refine (zG6 w).mono ?_;rintro e w1 ⟨rfl, hb1⟩;have HB1 := hid hb1;clear hb1;have HNW := hid (zJb w1 4096 8 1 0 (by decide) (by decide) (by decide));go_wp2_with fail;refine HNW.o.mono ?_;rintro e w2 ⟨h, rfl, hx2⟩;obtain ⟨R, W3, HA, HR0⟩ := zLk hx2;clear hx2 HNW;have HBW : Hid (∀ w', Bw w1 w' -> Bw w w') := hid fun w' q => zA HB1.o HB1.o.size q
  go_upto_region 5 with fail
  rw [HA.o.1, HA.o.2];have HV0 : Hid (zRp w1 h R (sc none 0 0) [] 0 W3) := hid ⟨[], _, uQ.start HR0.o, ⟨rfl, rfl⟩, ⟨(fun k q => absurd rfl q), (fun x q => by cases q)⟩, (fun k q => by cases q), zaL _, zaL _⟩;clear HR0;go_wp2_with fail
  go_loopg [8, 52] os.length (fun gg v8 vi wr => ∃ (i : Nat) (ks : List Ky) (pk : Option Addr) (ck : Nat), v8 = sc pk ks.length ck /\ vi = ii i /\ i <= os.length /\ os.length - i <= gg /\ Hid (zRp w1 h R (sc pk ks.length ck) ks i wr))
  case atStart => exact ⟨0, [], none, 0, rfl, rfl, by omega, by omega, HV0.o⟩
  clear HV0;obtain ⟨i, ks, pk, ck, rfl, rfl, hi, hgk, HI⟩ := hrel
  by_cases hlt : i < os.length
  · have hltz : (i : Int) < (os.length : Int) := by omega
    have hiz : (0 : Int) <= i := by omega
    obtain ⟨gs, r, hx, hra, hks, hfk, hil, hkl⟩ := HI.o;have HX := hid hx;obtain ⟨b7, o7, rfl, hrg⟩ := zPX (HIN.o wr (HBW.o wr hx.sto.bel)).1 hlt;have hov := (HIN.o wr (HBW.o wr hx.sto.bel)).2 _ (zaN hlt)
    generalize os[i] = o at *
    have HRG := hid hrg;obtain ⟨B, V1, W4, HA, HTH, HW4, H4⟩ := jD wr 40 [ii 0, ii 0, tq ⟨#[]⟩, tq ⟨#[]⟩, sc none 0 0, sc none 0 0, iu 0, ii 0] (vN o) rfl;have HR4 := hid (xQ (cs := vN o) H4.o.1).1;have HO4 := hid (hov.on H4.o.2.1);have HM := hid (xbf hra (xbf hks (xbf hfk (xbf hil hkl))));clear hrg hov hx hra hks hfk hil hkl HI;have y0 : W4.cell? (aa B 0) = some (ii o.kind) := by have := HR4.o 0 _ rfl; simpa using this
    go_upto_region 9 with (first | (refine yX rfl 40 _ rfl b7 (o7 + i * 8) rfl (vN o) _ HRG.o underlying40 rfl Tryz.opSize (.agg (vN o).toArray) rfl ?_) | (refine zJ rfl 40 _ _ rfl B 0 (vN o).toArray rfl rfl HTH.o Tryz.opSize (zMn o) W4 HW4.o ?_) | (rw [HA.o.1, HA.o.2]; refine zJ rfl 40 _ _ rfl B 0 (vN o).toArray rfl rfl HTH.o Tryz.opSize (zMn o) W4 HW4.o ?_))
    by_cases hk : o.kind = 16
    · have e16 : (o.kind == 16) = true := by simpa using hk
      have hx0 := HX.o.on H4.o.2.1;obtain ⟨vt, l, hx0⟩ := hx0;obtain ⟨Z, hs, hback⟩ := hx0.call;have hokS := hs.okS;have hsl : 0 <= r.S.last := Int.le_trans hokS.fl0 hokS.fl;have hst := hokS.top;unfold tD at hst;have HBK := hid hback;have HOK := hid hokS;have HL1 := hid (pV hs);clear hk hx0 hback hokS hs HX HO4 HR4;go_wp2_with fail;refine HL1.o.mono ?_;rintro e u1 ⟨rfl, hs⟩;have HL1 := hid (pV hs);clear hs;go_wp2_with fail;refine HL1.o.mono ?_;rintro e u2 ⟨rfl, hs⟩;have HL1 := hid (pV hs);clear hs;go_wp2_with fail;refine HL1.o.mono ?_;rintro e u3 ⟨rfl, hs⟩;have HU3 := hid (HBK.o _ _ _ hs);clear hs HL1 HBK;have hrr : r.ids = List.range r.S.txs.length := HM.o.1.2;have HTX : Hid (∀ j, (hj : j < l.length) -> ∃ t, gs[j]? = some l[j] /\ r.S.txs[j]? = some t) := hid fun j hj => HU3.o.tx hrr hj
      obtain ⟨⟨pt, ct, rfl, hrc, hlc⟩, hll, _⟩ := HU3.o.txs;have hlb : l.length <= 1048576 := by have := HM.o.2.2.2.1; have e : l.length = r.ids.length := hll; omega
      have hkb : ks.length <= 1048576 := by have := HM.o.2.2.2.2; omega
      have HLC := hid hlc;clear hlc hrr hll;go_wp2_with fail
      go_loopg [13, 75] l.length (fun gg va vi wr => ∃ (j : Nat) (a : Int), va = iu a /\ 0 <= a /\ a <= 18446744073709551615 /\ vi = ii j /\ j <= l.length /\ l.length - j <= gg /\ u3 = wr)
      case atStart => exact ⟨0, _, rfl, by omega, by omega, rfl, by omega, by omega, rfl⟩
      clear hrc;obtain ⟨j, a, rfl, ha0, ha1, rfl, hj, hgj, rfl⟩ := hrel
      by_cases hlt2 : j < l.length
      · have hltz2 : (j : Int) < (l.length : Int) := by omega
        have hjz : (0 : Int) <= j := by omega
        obtain ⟨b8, o8, rfl, y8⟩ := HLC.o j hlt2;obtain ⟨tx, hg, ht⟩ := HTX.o j hlt2;have HE := hid (fW HU3.o.sto hg ht);have HN := hid (zC1 HU3.o.sto hg ht);have hox := HOK.o.txs tx (List.mem_of_getElem? ht);have h1 := hox.lo;have h2 := hox.hi
        generalize l[j] = g at *
        clear hg ht hox
        cases he : tx.ended with
        | true =>
          rw [he] at HE;go_wp2_with fail;refine HE.o.mono ?_;rintro e u5 ⟨rfl, rfl⟩;go_wp2_with fail;go_roundg (l.length - (j + 1))
          case measure => omega
          exact ⟨j + 1, a, rfl, ha0, ha1, by go_num, by omega, by omega, rfl⟩
        | false =>
        rw [he] at HE;go_wp2_with fail;refine HE.o.mono ?_;rintro e u5 ⟨rfl, rfl⟩;go_wp2_with fail;refine HN.o.mono ?_;rintro e u5 ⟨rfl, rfl⟩;go_wp2_with fail;go_roundg (l.length - (j + 1))
        case measure => omega
        exact ⟨j + 1, max a tx.snap, rfl, by omega, by omega, by go_num, by omega, by omega, rfl⟩
      have hltz2 : ¬ (j : Int) < (l.length : Int) := by omega
      clear HLC hlt2 hj hgj;have HK3 : Hid (∀ {wx : World}, Bw u3 wx -> uQ w1 [] i h R (sc pk ks.length ck) ks gs ⟨r.S, r.ids⟩ wx) := hid fun q => ⟨_, _, HU3.o.on q⟩
      go_wp2_with fail
      clear hltz2
      go_loopg [11, 12, 89] ks.length (fun gg va vb vi wr => ∃ (m : Nat) (lw : List Vx) (lt : List Bool) (pw pb : Option Addr) (cw cb : Nat), va = sc pw lw.length cw /\ vb = sc pb lt.length cb /\ vi = ii m /\ m <= ks.length /\ ks.length - m <= gg /\ Hid (kR u3 ks (xT r.S.D a) m m (sc pw lw.length cw) lw (sc pb lt.length cb) lt wr))
      case atStart => exact ⟨0, [], [], none, none, 0, 0, rfl, rfl, rfl, by omega, by omega, hid (kR.start _ _ _)⟩
      obtain ⟨m, lw, lt, pw, pb, cw, cb, rfl, rfl, rfl, hm, hgm, HW⟩ := hrel
      by_cases hlt3 : m < ks.length
      · have hltz3 : (m : Int) < (ks.length : Int) := by omega
        have hmz : (0 : Int) <= m := by omega
        have hkx := HK3.o HW.o.a.bel;obtain ⟨b9, o9, rfl, hrg⟩ := hkx.key hlt3;have hkf := HM.o.2.2.1 _ (zaN hlt3);have hl1 : lw.length <= 1048576 := by have := (HW.o.lens hm hm).1; omega
        have hl2 : lt.length <= 1048576 := by have := (HW.o.lens hm hm).2; omega
        have HLT := hid hlt3;obtain ⟨k, hk, hrg, hkf⟩ : ∃ k, ks[m] = k /\ wr.rangeAt b9 (o9 + m * 2) (xP k) /\ yE k := ⟨_, rfl, hrg, hkf⟩;have HKM := hid hk;have HKI : Hid ((xT r.S.D a k).isSome = (xT r.S.D a ks[m]).isSome) := hid (xad (fun q => (xT r.S.D a q).isSome) hk.symm);have HRG := hid hrg;obtain ⟨B2, V2, W5, HA2, HTH2, HW5, H5⟩ := jD wr 36 [tq ⟨#[]⟩, tq ⟨#[]⟩] (xP k) rfl;have HY : Hid (W5.heap[B2]? = some (oc (xP k).toArray 36)) := hid H5.o.1;have HV := hid (zAZ (HK3.o (zA HW.o.a.bel HW.o.a.bel.size H5.o.2.1)).sto k hkf a);have HW2 := hid (HW.o.on H5.o.2.1);have z0 : W5.cell? (aa B2 0) = some (tq k.1) := by rw [zaC HY.o]; rfl
        have z1 : W5.cell? (aa B2 1) = some (tq k.2) := by rw [zaC HY.o]; rfl
        clear hrg hkf hkx HW hk;go_upto_region 22 with (first | (refine yX rfl 36 _ rfl b9 (o9 + m * 2) rfl (xP k) _ HRG.o underlying36 rfl Tryz.keySize (.agg (xP k).toArray) rfl ?_) | (refine zJ rfl 36 _ _ rfl B2 0 (xP k).toArray rfl rfl HTH2.o Tryz.keySize (zBF k) W5 HW5.o ?_) | (rw [HA2.o.1, HA2.o.2]; refine zJ rfl 36 _ _ rfl B2 0 (xP k).toArray rfl rfl HTH2.o Tryz.keySize (zBF k) W5 HW5.o ?_))
        go_wp2_with fail
        refine HV.o.mono ?_;rintro e u6 ⟨⟨zn, zs, zt, zl, zp, zc, zo⟩, rfl, hzv, ⟨hzo, hzf⟩, hb6⟩;obtain ⟨B3, V3, W7, HA3, HTH3, HW7, H7⟩ := jD u6 42 [ii 0, iu 0, ii 0, .bool false, sc none 0 0] (zF ⟨zn, zs, zt, zl, zp, zc, zo⟩) rfl;have hb7 := zA hb6 hb6.size H7.o.2.1;have HR7 := hid (xQ (cs := zF ⟨zn, zs, zt, zl, zp, zc, zo⟩) H7.o.1).1;have HW4 := hid (HW2.o.on hb7);have HZO := hid (xbf (zM (hzo.on H7.o.2.1) HW2.o.a.bel.size) hzf);have hzv' : Vx.ver ⟨zn, zs, zt, zl, zp, zc, zo⟩ = (xT r.S.D a ks[m]).getD zeroV := by rw [HKM.o]; exact hzv
        have HZV := hid hzv';clear hzv hzv' hzo hzf hb6 hb7 HV HW2;go_upto_region 23 with (rw [HA3.o.1, HA3.o.2]; refine zJ rfl 42 _ _ rfl B3 0 (zF ⟨zn, zs, zt, zl, zp, zc, zo⟩).toArray rfl rfl HTH3.o Tryz.verSize (zJS ⟨zn, zs, zt, zl, zp, zc, zo⟩) W7 HW7.o ?_)
        obtain ⟨i0, hi0, hz0, hz1, hz2⟩ := xaL Tryz.infoVz15;obtain ⟨i1, hi1, hy0, hy1, hy2⟩ := xaL Tryz.infoBz15;have HI0 := hid hi0;have HI1 := hid hi1;clear hi0 hi1;go_wp2_with (first | (refine yX rfl 42 _ rfl B3 0 rfl (zF ⟨zn, zs, zt, zl, zp, zc, zo⟩) _ HR7.o underlying42 rfl Tryz.verSize (.agg #[ii zn, iu zs, ii zt, .bool zl, sc zp zo.length zc]) rfl ?_) | (at_builtin; refine xG KV rfl _ _ 44 rfl i0 _ 56 underlying44 HI0.o hz0 hz1 hz2 rfl u3.heap.size u3 _ lw rfl (HW4.o.a.on (zaQ)) ⟨zn, zs, zt, zl, zp, zc, zo⟩ _ _ _ rfl rfl _ _ (xab _ _) (by unfold maxLen; omega) (by omega) ?_; intro g8 c8 w8 hst8 hg8 hn8; have HS8 := hid ((HW4.o.on (zaQ)).pushA hst8 hg8 (HZO.o.1.on (zaQ)) HZO.o.2 HLT.o HZV.o); clear hst8 hg8 hn8) | (at_builtin; refine xG KBz rfl _ _ 73 rfl i1 _ 1 underlying73 HI1.o hy0 hy1 hy2 rfl u3.heap.size u3 _ lt rfl (HS8.o.b.on (zaQ)) (xT r.S.D a k).isSome _ _ _ rfl rfl _ _ (xab _ _) (by unfold maxLen; omega) (by omega) ?_; intro g9 c9 w9 hst9 hg9 hn9; have HS9 := hid ((HS8.o.on (zaQ)).pushB hst9 hg9 HLT.o HKI.o); clear hst9 hg9 hn9));go_roundg (ks.length - (m + 1))
        case measure => omega
        exact ⟨m + 1, lw ++ [⟨zn, zs, zt, zl, zp, zc, zo⟩], lt ++ [(xT r.S.D a k).isSome], some (aa g8 0), some (aa g9 0), c8, c9, by simp, by simp, by go_num, by omega, by omega, hid (by rw [xah, xah]; exact HS9.o)⟩
      have hltz3 : ¬ (m : Int) < (ks.length : Int) := by omega
      have em : m = ks.length := by omega
      subst em;have HX7 := hid (HU3.o.told HW.o.a.bel);obtain ⟨Z, hs, hback⟩ := HX7.o.call;have HBK := hid hback;have hni : i <= 2000000000000 := by omega
      have HCN := hid (mL hs hni);clear hs hback hm hgm;go_wp2_with fail;refine HCN.o.mono ?_;rintro e u4 ⟨rfl, hs⟩;have HFL := hid (zAx hs);clear hs HCN;go_wp2_with fail;refine HFL.o.mono ?_;rintro e u5 ⟨rfl, hs⟩;have HVC := hid (mR hs hni);have hok8 := hs.okS;have HL8 := hid (xbf (zAs hok8) (zEA r.S));have HO8 : Hid (∀ x ∈ r.S.txs, x.ended = false -> zP r.S <= x.snap) := hid fun x q => gH q
      have HP8 := hid (jQ r.S.D (zP r.S));have HV8 : Hid (∀ k, zP r.S <= a -> xT (uH r.S).D a k = xT r.S.D a k) := hid fun k q => zNv hok8 q k
      have HK8 := hid HM.o.2.1.vac;have hrm : (zT r.S.D : Int) <= 4096 := by have h1 := hok8.cnt; have h2 := HM.o.1.1; omega
      have hf0 := hok8.fl0;clear hs HFL hok8;go_wp2_with fail;refine HVC.o.mono ?_;rintro e u8 ⟨rfl, hs⟩;have HX8 := hid (HBK.o _ _ _ hs);clear hs HVC HBK;clear hltz3;have HTY : Hid (∀ j, (hj : j < l.length) -> ∃ t, gs[j]? = some l[j] /\ r.S.txs[j]? = some t) := hid fun j hj => HX8.o.tx (show r.ids = List.range (uH r.S).txs.length from HM.o.1.2) hj
      obtain ⟨⟨pt', ct', e1, _, hlc⟩, _, _⟩ := HX8.o.txs;have HLC := hid hlc;clear hlc;go_wp2_with fail
      go_loopg [123] l.length (fun gg vi wr => ∃ (j : Nat), vi = ii j /\ j <= l.length /\ l.length - j <= gg /\ u8 = wr)
      case atStart => exact ⟨0, rfl, by omega, by omega, rfl⟩
      obtain ⟨j, rfl, hj, hgj, rfl⟩ := hrel
      by_cases hlt4 : j < l.length
      · have hltz4 : (j : Int) < (l.length : Int) := by omega
        have hjz : (0 : Int) <= j := by omega
        obtain ⟨b8, o8, rfl, y8⟩ := HLC.o j hlt4;obtain ⟨tx, hg, ht⟩ := HTY.o j hlt4;have HE := hid (fW HX8.o.sto hg ht);have HN := hid (zC1 HX8.o.sto hg ht);have HT := hid (List.mem_of_getElem? ht)
        generalize l[j] = g at *
        clear hg ht
        cases he : tx.ended with
        | true =>
          rw [he] at HE;go_wp2_with fail;refine HE.o.mono ?_;rintro e u9 ⟨rfl, rfl⟩;go_wp2_with fail;go_roundg (l.length - (j + 1))
          case measure => omega
          exact ⟨j + 1, by go_num, by omega, by omega, rfl⟩
        | false =>
        have hno := HO8.o tx HT.o he;have hno' : ¬ tx.snap < zP r.S := by omega
        rw [he] at HE;go_wp2_with fail;refine HE.o.mono ?_;rintro e u9 ⟨rfl, rfl⟩;go_wp2_with fail;refine HN.o.mono ?_;rintro e u9 ⟨rfl, rfl⟩;go_wp2_with fail;go_roundg (l.length - (j + 1))
        case measure => omega
        exact ⟨j + 1, by go_num, by omega, by omega, rfl⟩
      have hltz4 : ¬ (j : Int) < (l.length : Int) := by omega
      obtain ⟨c1, c2⟩ := HL8.o;have c1' : ¬ zP r.S < r.S.floor := by omega
      have c2' : ¬ zP r.S > r.S.last := by omega
      obtain ⟨Z, hs, hback⟩ := HX8.o.call;have HBK := hid hback;have HL9 := hid (show Calls _ _ _ _ (fun e w' => e = .returned (iu r.S.last) /\ Sto _ _ _ _ _ _ w') from pV (S := uH r.S) hs);clear hs hback HLC HTY hlt4 hj hgj;go_wp2_with fail;clear hltz4;refine HL9.o.mono ?_;rintro e u9 ⟨rfl, hs⟩;have HF9 := hid (show Calls _ _ _ _ (fun e w' => e = .returned (iu (zP r.S)) /\ Sto _ _ _ _ _ _ w') from zAx (S := uH r.S) hs);clear hs HL9;go_wp2_with fail;refine HF9.o.mono ?_;rintro e u10 ⟨rfl, hs⟩;have HC9 := hid (mL (S := uH r.S) hs hni);clear hs HF9;go_wp2_with fail;refine HC9.o.mono ?_;rintro e u11 ⟨rfl, hs⟩;have HXB := hid (HBK.o _ _ _ hs);clear hs HC9 HBK;have hcp : ((zT (uH r.S).D : Nat) : Int) = (zT r.S.D : Int) - (tL r.S.D (zP r.S) : Int) := by have := HP8.o; show ((zT (wB r.S.D (zP r.S)) : Nat) : Int) = _; omega
      have hcp0 : 0 <= ((zT (uH r.S).D : Nat) : Int) := by omega
      have hcp1 : 0 <= ((tL r.S.D (zP r.S) : Nat) : Int) := by omega
      go_wp2_with fail
      go_loopg [162] ks.length (fun gg vi wr => ∃ (j : Nat), vi = ii j /\ j <= ks.length /\ ks.length - j <= gg /\ Hid (Bw u11 wr))
      case atStart => exact ⟨0, rfl, by omega, by omega, hid (zaR _ _)⟩
      obtain ⟨j, rfl, hj, hgj, HJ⟩ := hrel
      by_cases hlt5 : j < ks.length
      · have hltz5 : (j : Int) < (ks.length : Int) := by omega
        have hjz : (0 : Int) <= j := by omega
        obtain ⟨b9, o9, rfl, hrg⟩ := uQ.key ⟨_, _, HXB.o.on HJ.o⟩ hlt5;have hkf := HM.o.2.2.1 _ (zaN hlt5);have HLT := hid hlt5;obtain ⟨k, hk, hrg, hkf⟩ : ∃ k, ks[j] = k /\ wr.rangeAt b9 (o9 + j * 2) (xP k) /\ yE k := ⟨_, rfl, hrg, hkf⟩;have HKM := hid hk;have HRG := hid hrg;obtain ⟨B2, V2, W5, HA2, HTH2, HW5, H5⟩ := jD wr 36 [tq ⟨#[]⟩, tq ⟨#[]⟩] (xP k) rfl;have HY : Hid (W5.heap[B2]? = some (oc (xP k).toArray 36)) := hid H5.o.1;have HJ5 := hid (zA HJ.o HJ.o.size H5.o.2.1);have HV := hid (zAZ (HXB.o.on HJ5.o).sto k hkf a);have z0 : W5.cell? (aa B2 0) = some (tq k.1) := by rw [zaC HY.o]; rfl
        have z1 : W5.cell? (aa B2 1) = some (tq k.2) := by rw [zaC HY.o]; rfl
        clear hrg hkf hk HJ;go_wp2_with (first | (refine yX rfl 36 _ rfl b9 (o9 + j * 2) rfl (xP k) _ HRG.o underlying36 rfl Tryz.keySize (.agg (xP k).toArray) rfl ?_) | (refine zJ rfl 36 _ _ rfl B2 0 (xP k).toArray rfl rfl HTH2.o Tryz.keySize (zBF k) W5 HW5.o ?_) | (rw [HA2.o.1, HA2.o.2]; refine zJ rfl 36 _ _ rfl B2 0 (xP k).toArray rfl rfl HTH2.o Tryz.keySize (zBF k) W5 HW5.o ?_));refine HV.o.mono ?_;rintro e u12 ⟨⟨yn, ys, yt, yl, yp, yc, yo⟩, rfl, hyv, ⟨hyo, hyf⟩, hb12⟩;obtain ⟨B3, V3, W7, HA3, HTH3, HW7, H7⟩ := jD u12 42 [ii 0, iu 0, ii 0, .bool false, sc none 0 0] (zF ⟨yn, ys, yt, yl, yp, yc, yo⟩) rfl;have hb7 := zA hb12 hb12.size H7.o.2.1;have HR7 := hid (xQ (cs := zF ⟨yn, ys, yt, yl, yp, yc, yo⟩) H7.o.1).1;have HJ7 := hid (zA HJ5.o HJ5.o.size hb7);have HYO := hid (xbf (hyo.on H7.o.2.1).1.is hyf);have HYV := hid hyv;clear hyv hyo hyf hb12 hb7 HV;obtain ⟨⟨xn, xs, xt, xl, xp, xc, xo⟩, bw, ow, bt, ot, rfl, hrw, hzi, hzf, hzv, rfl, hct⟩ := HW.o.read HX7.o.sto.bel (HXB.o.on HJ7.o).sto HLT.o;go_upto_region 38 with (rw [HA3.o.1, HA3.o.2]; refine zJ rfl 42 _ _ rfl B3 0 (zF ⟨yn, ys, yt, yl, yp, yc, yo⟩).toArray rfl rfl HTH3.o Tryz.verSize (zJS ⟨yn, ys, yt, yl, yp, yc, yo⟩) W7 HW7.o ?_)
        go_wp2_with fail
        have HBD : Hid (Bw W7 W7.drew) := hid (zaR _ _).drew;have HJ8 := hid (zA HJ7.o HJ7.o.size HBD.o);have hjw : (j : Int) < (lw.length : Int) := by have := (HW.o.lens (zaL _) (zaL _)).1; omega
        have hjt : (j : Int) < (lt.length : Int) := by have := (HW.o.lens (zaL _) (zaL _)).2; omega
        obtain ⟨p, hp⟩ := eE ((xT (uH r.S).D a k).isSome);rw [hp]
        by_cases hge : zP r.S <= a
        · have ek : xT r.S.D a ks[j] = xT (uH r.S).D a k := by rw [HKM.o]; exact (HV8.o k hge).symm
          have hzv := hzv.trans (xad (fun q => q.getD zeroV) ek);have hct := hct.trans ((xad (fun q : Option Vr => some (Value.bool q.isSome)) ek).trans (xad (fun q => some (Value.bool q)) hp));have hge' : (decide (a ≥ zP r.S)) = true := xas hge;have HXC : Hid (∀ w', Bw W7 w' -> (w'.cell? (aa B3 0) = some (ii yn) /\ w'.cell? (aa B3 1) = some (iu ys) /\ w'.cell? (aa B3 2) = some (ii yt) /\ w'.cell? (aa B3 3) = some (.bool yl) /\ w'.cell? (aa B3 4) = some (sc yp yo.length yc)) /\ (w'.cell? (aa bw (ow + j * 5)) = some (ii xn) /\ w'.cell? (aa bw (ow + j * 5 + 1)) = some (iu xs) /\ w'.cell? (aa bw (ow + j * 5 + 2)) = some (ii xt) /\ w'.cell? (aa bw (ow + j * 5 + 3)) = some (.bool xl) /\ w'.cell? (aa bw (ow + j * 5 + 4)) = some (sc xp xo.length xc)) /\ w'.cell? (aa bt (ot + j)) = some (.bool p)) := hid fun w' hW => have hc : ∀ {q : Addr} {v : Value}, W7.cell? q = some v -> w'.cell? q = some v := fun q => (hW.cell (zI q)).trans q; ⟨⟨hc (HR7.o 0 _ rfl), hc (HR7.o 1 _ rfl), hc (HR7.o 2 _ rfl), hc (HR7.o 3 _ rfl), hc (HR7.o 4 _ rfl)⟩, ⟨hc (hrw 0 _ rfl), hc (hrw 1 _ rfl), hc (hrw 2 _ rfl), hc (hrw 3 _ rfl), hc (hrw 4 _ rfl)⟩, hc hct⟩
          have HSV : Hid (CC 28 #[.agg #[ii yn, iu ys, ii yt, .bool yl, sc yp yo.length yc], .agg #[ii xn, iu xs, ii xt, .bool xl, sc xp xo.length xc]] W7.drew fun e w' => e = .returned (.bool true) /\ Below W7.drew.heap.size W7.drew w') := hid (by
            have := zLJ ⟨yn, ys, yt, yl, yp, yc, yo⟩ ⟨xn, xs, xt, xl, xp, xc, xo⟩ W7.drew (HYO.o.1.kept HBD.o) (hzi.kept HBD.o) HYO.o.2 hzf
            rwa [xas (HYV.o.trans hzv.symm)] at this)
          clear hrw hzi hzf hzv hct ek hp z0 z1 hrg hkf;refine wp_region_held_drew (S := fun w' => (w'.cell? (aa B3 0) = some (ii yn) /\ w'.cell? (aa B3 1) = some (iu ys) /\ w'.cell? (aa B3 2) = some (ii yt) /\ w'.cell? (aa B3 3) = some (.bool yl) /\ w'.cell? (aa B3 4) = some (sc yp yo.length yc)) /\ (w'.cell? (aa bw (ow + j * 5)) = some (ii xn) /\ w'.cell? (aa bw (ow + j * 5 + 1)) = some (iu xs) /\ w'.cell? (aa bw (ow + j * 5 + 2)) = some (ii xt) /\ w'.cell? (aa bw (ow + j * 5 + 3)) = some (.bool xl) /\ w'.cell? (aa bw (ow + j * 5 + 4)) = some (sc xp xo.length xc)) /\ w'.cell? (aa bt (ot + j)) = some (.bool p)) (by kernel_rfl) (HXC.o _ HBD.o) (fun hHeld => ?_);refine tkv 0 (iu a) hHeld ?_;simp only [Act.put, sz];refine tkv 1 (iu (zP r.S)) hHeld ?_;simp only [Act.put, sz];refine tkv 2 (.bool true) hHeld ?_;simp only [Act.put, sz];refine tkv 3 (.bool true) hHeld ?_;simp only [Act.put, sz];refine tkv 4 (.bool p) hHeld ?_;simp only [Act.put, sz];refine tkv 5 (sc (some (aa bt ot)) lt.length cb) hHeld ?_;simp only [Act.put, sz];refine tkv 6 (ii j) hHeld ?_;simp only [Act.put, sz];refine tkv 7 (.pointer (some (aa bt (ot + j)))) hHeld ?_;simp only [Act.put, sz];refine tkv 8 (.bool p) hHeld ?_;simp only [Act.put, sz];refine tkv 9 (.bool false) hHeld ?_;simp only [Act.put, sz];refine tkv 10 (.bool false) hHeld ?_;simp only [Act.put, sz];refine tkv 11 (.agg #[ii yn, iu ys, ii yt, .bool yl, sc yp yo.length yc]) hHeld ?_;simp only [Act.put, sz];refine tkv 12 (sc (some (aa bw ow)) lw.length cw) hHeld ?_;simp only [Act.put, sz];refine tkv 13 (ii j) hHeld ?_;simp only [Act.put, sz];refine tkv 14 (.pointer (some (aa bw (ow + j * 5)))) hHeld ?_;simp only [Act.put, sz];refine tkv 15 (.agg #[ii xn, iu xs, ii xt, .bool xl, sc xp xo.length xc]) hHeld ?_;simp only [Act.put, sz];refine xaA (rs := [16]) (by kernel_rfl) (by simp) ?_;refine xao (zB rfl) (fun K hK => ?_) xau;rw [xae (by rfl)]
          go_simp
          refine HSV.o.mono ?_;rintro e wd ⟨rfl, hb⟩;have HB_wd := hid (zA HBD.o HBD.o.size hb);have HJ9 := hid (zA HJ8.o HJ8.o.size hb);clear hb;go_wp2_with fail;refine hK.out _ _ (HXC.o _ HB_wd.o) (fun hHeld => ?_);clear hK K
          try simp only [Act.put, sz]
          refine tkv 17 (.bool false) hHeld ?_;simp only [Act.put, sz];refine tkv 18 (.bool false) hHeld ?_;simp only [Act.put, sz];refine tkv 19 (.bool false) hHeld ?_;simp only [Act.put, sz];refine tkd ?_;clear hHeld hge hge';go_wp2_with fail;go_roundg (ks.length - (j + 1))
          case measure => omega
          exact ⟨j + 1, by go_num, by omega, by omega, HJ9⟩
        have hge' : (decide (a ≥ zP r.S)) = false := xar hge
        clear hrw hzi hzf hzv hct hp z0 z1 hrg hkf;refine wp_region_held_drew (S := fun w' => True) (by kernel_rfl) trivial (fun hHeld => ?_);refine tkv 0 (iu a) hHeld ?_;simp only [Act.put, sz];refine tkv 1 (iu (zP r.S)) hHeld ?_;simp only [Act.put, sz];refine tkv 2 (.bool false) hHeld ?_;simp only [Act.put, sz];refine tkv 3 (.bool false) hHeld ?_;simp only [Act.put, sz];refine yS (i := 4) rfl (by kernel_rfl) (by kernel_rfl) (by kernel_rfl) (fun _ _ _ h => h) (by rfl) hHeld ?_;simp only [Act.put, sz];refine yS (i := 5) rfl (by kernel_rfl) (by kernel_rfl) (by kernel_rfl) (fun _ _ _ h => h) (by rfl) hHeld ?_;simp only [Act.put, sz];refine yS (i := 6) rfl (by kernel_rfl) (by kernel_rfl) (by kernel_rfl) (fun _ _ _ h => h) (by rfl) hHeld ?_;simp only [Act.put, sz];refine yS (i := 7) rfl (by kernel_rfl) (by kernel_rfl) (by kernel_rfl) (fun _ _ _ h => h) (by rfl) hHeld ?_;simp only [Act.put, sz];refine yS (i := 8) rfl (by kernel_rfl) (by kernel_rfl) (by kernel_rfl) (fun _ _ _ h => h) (by rfl) hHeld ?_;simp only [Act.put, sz];refine yS (i := 9) rfl (by kernel_rfl) (by kernel_rfl) (by kernel_rfl) (fun _ _ _ h => h) (by rfl) hHeld ?_;simp only [Act.put, sz];refine yS (i := 10) rfl (by kernel_rfl) (by kernel_rfl) (by kernel_rfl) (fun _ _ _ h => h) (by rfl) hHeld ?_;simp only [Act.put, sz];refine yS (i := 11) rfl (by kernel_rfl) (by kernel_rfl) (by kernel_rfl) (fun _ _ _ h => h) (by rfl) hHeld ?_;simp only [Act.put, sz];refine yS (i := 12) rfl (by kernel_rfl) (by kernel_rfl) (by kernel_rfl) (fun _ _ _ h => h) (by rfl) hHeld ?_;simp only [Act.put, sz];refine yS (i := 13) rfl (by kernel_rfl) (by kernel_rfl) (by kernel_rfl) (fun _ _ _ h => h) (by rfl) hHeld ?_;simp only [Act.put, sz];refine yS (i := 14) rfl (by kernel_rfl) (by kernel_rfl) (by kernel_rfl) (fun _ _ _ h => h) (by rfl) hHeld ?_;simp only [Act.put, sz];refine yS (i := 15) rfl (by kernel_rfl) (by kernel_rfl) (by kernel_rfl) (fun _ _ _ h => h) (by rfl) hHeld ?_;simp only [Act.put, sz];refine yS (i := 16) rfl (by kernel_rfl) (by kernel_rfl) (by kernel_rfl) (fun _ _ _ h => h) (by rfl) hHeld ?_;simp only [Act.put, sz];refine yS (i := 17) rfl (by kernel_rfl) (by kernel_rfl) (by kernel_rfl) (fun _ _ _ h => h) (by rfl) hHeld ?_;simp only [Act.put, sz];refine yS (i := 18) rfl (by kernel_rfl) (by kernel_rfl) (by kernel_rfl) (fun _ _ _ h => h) (by rfl) hHeld ?_;simp only [Act.put, sz];refine tkv 19 (.bool false) hHeld ?_;simp only [Act.put, sz];refine tkd ?_;clear hHeld hge hge';go_wp2_with fail;go_roundg (ks.length - (j + 1))
        case measure => omega
        exact ⟨j + 1, by go_num, by omega, by omega, HJ8⟩
      have hltz5 : ¬ (j : Int) < (ks.length : Int) := by omega
      have HX9 := hid (HXB.o.on HJ.o).only;clear hlt5 hj hgj HJ;go_wp2_with fail;clear hltz5;go_roundg (os.length - (i + 1))
      case measure => omega
      exact ⟨i + 1, ks, pk, ck, rfl, by go_num, by omega, by omega, hid ⟨gs, ⟨uH r.S, r.ids⟩, uQ.mono ⟨_, _, HX9.o⟩ (xax i), ⟨HM.o.1.1, HM.o.1.2⟩, HK8.o, HM.o.2.2.1, by have := HM.o.2.2.2.1; show r.ids.length <= _; omega, by have := HM.o.2.2.2.2; omega⟩⟩
    have e16 : (o.kind == 16) = false := by simpa using hk
    have hwb : wr.heap.size <= B := by rw [HA.o.1]; exact zaL _
    obtain ⟨ZU, hrun, hback⟩ := (HX.o.pin H4.o.2.1 hwb H4.o.1).run;have HDO := hid (zN9 hrun (by omega) (zaU HM.o.2.2.2.1 (by omega)) o HO4.o);have HBK := hid hback;clear hrun hback hk hwb HX;go_wp2_with (refine yX rfl 40 _ rfl B 0 rfl (vN o) _ HR4.o underlying40 rfl Tryz.opSize (.agg (vN o).toArray) rfl ?_);refine HDO.o.mono ?_;rintro e w5 ⟨ot, A, w6, gs', rfl, _, _, _, _, hZ⟩;have hx5 := HBK.o _ _ _ _ (hZ [] fun p hp => by cases hp);have hb5 : w5.heap[B]? = some (oc (vN o).toArray 40) := hx5.sto.got zaH;have y0 : w5.cell? (aa B 0) = some (ii o.kind) := cz hb5;have HX5 := hid hx5.only;have HB5 := hid hb5;have HRN := hid (zOr HM.o.1 o.op);have HIF := hid (zaU (zPe r o.op) (Nat.succ_le_succ HM.o.2.2.2.1));clear hx5 hb5 hZ HDO HBK
    by_cases hk4 : o.kind = 4
    · have e4 : (o.kind == 4) = true := by simpa using hk4
      have y2 : w5.cell? (aa B 2) = some (tq o.a) := by rw [zaC HB5.o]; rfl
      have y3 : w5.cell? (aa B 3) = some (tq o.b) := by rw [zaC HB5.o]; rfl
      have HKS := hid (HM.o.2.1.step (ks' := ks ++ [(o.a, o.b)]) o.op (fun k q => zaG (xac q)) fun _ => zaG (xaf (List.mem_singleton.2 rfl)));obtain ⟨i0, hi0, hz0, hz1, hz2⟩ := xaL Tryz.infoKz15;have hkl := HM.o.2.2.2.2;have HI0 := hid hi0;clear hi0 hk4;go_wp2_with (at_builtin; refine xG KK rfl _ _ 46 rfl i0 _ 32 underlying46 HI0.o hz0 hz1 hz2 rfl w1.heap.size w1 _ ks rfl (HX5.o.row.on (zaQ)) (o.a, o.b) _ _ _ rfl rfl _ _ (xab _ _) (by unfold maxLen; omega) (by omega) ?_; intro g8 c8 w8 hst8 hg8 hn8; have HX8 := hid ((HX5.o.on (zaQ)).push hst8 hg8 hn8); clear hst8 hg8 hn8);go_roundg (os.length - (i + 1))
      case measure => omega
      exact ⟨i + 1, ks ++ [(o.a, o.b)], some (aa g8 0), c8, by simp, by go_num, by omega, by omega, hid ⟨gs', _, by rw [xah]; exact HX8.o, HRN.o, HKS.o, fun k q => by
        rcases List.mem_append.1 q with q | q
        · exact HM.o.2.2.1 k q
        rw [List.mem_singleton.1 q]; exact HO4.o.key, HIF.o, by rw [xah]; simpa using hkl⟩⟩
    have e4 : (o.kind == 4) = false := by simpa using hk4
    have HKS := hid (HM.o.2.1.step (ks' := ks) o.op (fun _ q => q) fun q => absurd q hk4);clear hk4;go_wp2_with fail;go_roundg (os.length - (i + 1))
    case measure => omega
    exact ⟨i + 1, ks, pk, ck, rfl, by go_num, by omega, by omega, hid ⟨gs', _, HX5.o, HRN.o, HKS.o, HM.o.2.2.1, HIF.o, by have := HM.o.2.2.2.2; omega⟩⟩
  have hltz : ¬ (i : Int) < (os.length : Int) := by omega
  obtain ⟨gs, r, ⟨vt, l, hx⟩, hra, hks, hfk, hil, hkl⟩ := HI.o;obtain ⟨⟨pt, ct, rfl, hrc, _⟩, hll, _⟩ := hx.txs;have HIR := hid (hll.trans (xad List.length hra.2));have HRR := hid hra.2;have hlb : l.length <= 1048576 := by have e : l.length = r.ids.length := hll; omega
  have hkb : ks.length <= 1048576 := by omega
  have hni : i <= 2000000000000 := by omega
  have HFK := hid hfk;have HG0 : Hid (KeB w1 [] i h R (sc pk ks.length ck) ks gs ⟨r.S, r.ids⟩ (sc pt l.length ct) l wr /\ GvS 4096 l.length 0 r.S /\ vY ks r.S) := hid ⟨hx, ⟨hra.1, by rw [HIR.o, xbR], fun j t hj => absurd hj (Nat.not_lt_zero j)⟩, hks⟩;clear hx hra hks hfk hil hkl hll HI hgk hi hlt;go_wp2_with fail;clear hltz
  go_loopg [212] l.length (fun gg vi wr => ∃ (m : Nat) (S : Sv), vi = ii m /\ m <= l.length /\ l.length - m <= gg /\ Hid (KeB w1 [] i h R (sc pk ks.length ck) ks gs ⟨S, r.ids⟩ (sc pt l.length ct) l wr /\ GvS 4096 l.length m S /\ vY ks S))
  case atStart => exact ⟨0, _, rfl, by omega, by omega, HG0⟩
  clear HG0 hrc;obtain ⟨m, S, rfl, hm, hgm, HS⟩ := hrel
  by_cases hlt6 : m < l.length
  · have hltz6 : (m : Int) < (l.length : Int) := by omega
    have hmz : (0 : Int) <= m := by omega
    obtain ⟨hx, hg, hk⟩ := HS.o;obtain ⟨⟨_, _, e1, -, hlc⟩, -, -⟩ := hx.txs;injection e1 with e1 _ e3
    subst e1 e3;obtain ⟨b8, o8, rfl, y8⟩ := hlc m hlt6
    have hrs : r.S.txs.length = S.txs.length := by have e2 : l.length = r.S.txs.length := by rw [HIR.o, xbR]
                                                   rw [<- e2]; exact hg.2.symm
    obtain ⟨tx, hgj, ht⟩ := hx.tx (show r.ids = List.range S.txs.length by rw [<- hrs]; exact HRR.o) hlt6;obtain ⟨Z, hs, hback⟩ := hx.call;have HGV := hid (zGz hs hni hgj ht);have HBK := hid hback;have HGN := hid (xbf (hg.give tx hlt6) (hk.give ht));clear hlc hx hg hk hs hback hgj ht hrs HS
    generalize l[m] = g at *
    go_wp2_with fail
    refine HGV.o.mono ?_;rintro e u3 ⟨rfl, hs⟩;have HN := hid (xbf (HBK.o _ _ _ hs) HGN.o);clear hs HBK HGV HGN;go_wp2_with fail;go_roundg (l.length - (m + 1))
    case measure => omega
    exact ⟨m + 1, _, by go_num, by omega, by omega, HN⟩
  have hltz6 : ¬ (m : Int) < (l.length : Int) := by omega
  have em : m = l.length := by omega
  subst em;obtain ⟨hx, hg, hk⟩ := HS.o;obtain ⟨Z, hs, hback⟩ := hx.call;have hok := hs.okS;have HVC := hid (mR hs hni);have HBK := hid hback
  have hsh : zAI S := ⟨fun x hx => by
    obtain ⟨j, hj, rfl⟩ := List.getElem_of_mem hx;exact hg.3 j _ (by rw [<- hg.2]; exact hj) (xai hj)⟩
  have HLE := hid hsh.least;have HNO := hid hsh.none;have HEA := hid (hsh.each hok hk);have hl0 : 0 <= S.last := Int.le_trans hok.fl0 hok.fl;have hl1 := hok.top;clear hx hg hk hs hback hok hsh HS hm hgm hlt6;go_wp2_with fail;refine HVC.o.mono ?_;rintro e u4 ⟨rfl, hs⟩;have HX4 := hid (HBK.o _ _ _ hs);clear hs HVC HBK;rw [HLE.o];go_wp2_with fail;clear hltz6;obtain ⟨P, hP⟩ : ∃ P : Ky -> Bool, (fun k => (atV (ofD (uH S).D k) tD).isSome) = P := ⟨_, rfl⟩;rw [hP] at HEA;have HP := hid (congrFun hP);clear hP
  go_loopg [34, 226] ks.length (fun gg vn vi wr => ∃ (q : Nat), vi = ii q /\ vn = ii (zA1 P ks q : Nat) /\ q <= ks.length /\ ks.length - q <= gg /\ zA1 P ks q <= q /\ Hid (Bw u4 wr))
  case atStart => exact ⟨0, rfl, rfl, by omega, by omega, by show 0 <= 0; omega, hid (zaR _ _)⟩
  obtain ⟨q, rfl, rfl, hq, hgq, hfq, HQ⟩ := hrel
  by_cases hlt7 : q < ks.length
  · have hltz7 : (q : Int) < (ks.length : Int) := by omega
    have hqz : (0 : Int) <= q := by omega
    obtain ⟨b9, o9, rfl, hrg⟩ := uQ.key ⟨_, _, HX4.o.on HQ.o⟩ hlt7;have hkf := HFK.o _ (zaN hlt7);have HLT := hid hlt7;obtain ⟨k, hk, hrg, hkf⟩ : ∃ k, ks[q] = k /\ wr.rangeAt b9 (o9 + q * 2) (xP k) /\ yE k := ⟨_, rfl, hrg, hkf⟩;have HKM := hid hk;have HRG := hid hrg;obtain ⟨B2, V2, W5, HA2, HTH2, HW5, H5⟩ := jD wr 36 [tq ⟨#[]⟩, tq ⟨#[]⟩] (xP k) rfl;have HY : Hid (W5.heap[B2]? = some (oc (xP k).toArray 36)) := hid H5.o.1;have HJ5 := hid (zA HQ.o HQ.o.size H5.o.2.1);have HV := hid (zAZ (HX4.o.on HJ5.o).sto k hkf tD);have z0 : W5.cell? (aa B2 0) = some (tq k.1) := by rw [zaC HY.o]; rfl
    have z1 : W5.cell? (aa B2 1) = some (tq k.2) := by rw [zaC HY.o]; rfl
    clear hrg hkf hk HQ;go_upto_region 56 with (first | (refine yX rfl 36 _ rfl b9 (o9 + q * 2) rfl (xP k) _ HRG.o underlying36 rfl Tryz.keySize (.agg (xP k).toArray) rfl ?_) | (refine zJ rfl 36 _ _ rfl B2 0 (xP k).toArray rfl rfl HTH2.o Tryz.keySize (zBF k) W5 HW5.o ?_) | (rw [HA2.o.1, HA2.o.2]; refine zJ rfl 36 _ _ rfl B2 0 (xP k).toArray rfl rfl HTH2.o Tryz.keySize (zBF k) W5 HW5.o ?_))
    go_wp2_with fail
    refine HV.o.mono ?_;rintro e u12 ⟨⟨yn, ys, yt, yl, yp, yc, yo⟩, rfl, -, -, hb12⟩;obtain ⟨B3, V3, W7, HA3, HTH3, HW7, H7⟩ := jD u12 42 [ii 0, iu 0, ii 0, .bool false, sc none 0 0] (zF ⟨yn, ys, yt, yl, yp, yc, yo⟩) rfl;have hb7 := zA hb12 hb12.size H7.o.2.1;have HJ7 := hid (zA HJ5.o HJ5.o.size hb7);have HJ6 := hid hb7;have hPk : (xT (uH S).D tD k).isSome = P k := HP.o k;rw [hPk];clear hb12 hb7 HV hPk;go_upto_region 57 with (rw [HA3.o.1, HA3.o.2]; refine zJ rfl 42 _ _ rfl B3 0 (zF ⟨yn, ys, yt, yl, yp, yc, yo⟩).toArray rfl rfl HTH3.o Tryz.verSize (zJS ⟨yn, ys, yt, yl, yp, yc, yo⟩) W7 HW7.o ?_)
    go_wp2_with fail
    go_loopg [38, 39] q (fun gg vb vi wr => ∃ (m : Nat) (b : Bool), vi = ii m /\ vb = .bool b /\ (P k && !qW (ks.take m) k) = b /\ m <= q /\ q - m <= gg /\ Hid (Bw W7 wr))
    case atStart => exact ⟨0, P k, rfl, rfl, by simp [qW], by omega, by omega, hid (zaR _ _)⟩
    obtain ⟨m, b, rfl, rfl, hb, hmq, hgm, HM8⟩ := hrel
    by_cases hlt8 : m < q
    · have hltz8 : (m : Int) < (q : Int) := by omega
      have hmz : (0 : Int) <= m := by omega
      cases b with
      | true =>
        have hmk : m < ks.length := by omega
        have hmkz : (m : Int) < (ks.length : Int) := by omega
        obtain ⟨b9', o9', e9, hrg⟩ := uQ.key ⟨_, _, HX4.o.on (zA HJ7.o HJ7.o.size HM8.o)⟩ hmk;injection e9 with e9
        injection e9 with e9 e10 _
        subst e9 e10;have hsc := zM5 (k := k) hmk;rw [xaP, xbA] at hb;rw [hb.2, Bool.false_or] at hsc;have HB8 : Hid ((P k && !qW (ks.take (m + 1)) k) = !decide (ks[m] = k)) := hid (by rw [hsc, hb.1, Bool.true_and])
        generalize ks[m] = kk at *
        clear hsc hb;obtain ⟨ka, kb⟩ := kk;obtain ⟨qa, qb⟩ := k;have HBD : Hid (Bw W7 wr.drew) := HM8.o.drew;have HXC : Hid (wr.drew.cell? (aa b9 (o9 + m * 2)) = some (tq ka) /\ wr.drew.cell? (aa b9 (o9 + m * 2 + 1)) = some (tq kb) /\ wr.drew.cell? (aa B2 0) = some (tq qa) /\ wr.drew.cell? (aa B2 1) = some (tq qb)) := hid ⟨hrg 0 _ rfl, hrg 1 _ rfl, ((zA HJ6.o HJ6.o.size HBD.o).cell (zI z0)).trans z0, ((zA HJ6.o HJ6.o.size HBD.o).cell (zI z1)).trans z1⟩;clear hrg;go_wp2_with fail;refine wp_region_held_drew (S := fun w' => w'.cell? (aa b9 (o9 + m * 2)) = some (tq ka) /\ w'.cell? (aa b9 (o9 + m * 2 + 1)) = some (tq kb) /\ w'.cell? (aa B2 0) = some (tq qa) /\ w'.cell? (aa B2 1) = some (tq qb)) (by kernel_rfl) HXC.o (fun hHeld => ?_);refine tkv 0 (sc (some (aa b9 o9)) ks.length ck) hHeld ?_;simp only [Act.put, sz];refine tkv 1 (ii m) hHeld ?_;simp only [Act.put, sz];refine tkv 2 (.pointer (some (aa b9 (o9 + m * 2)))) hHeld ?_;simp only [Act.put, sz];refine tkv 3 (.agg #[tq ka, tq kb]) hHeld ?_;simp only [Act.put, sz];refine tkv 4 (.agg #[tq qa, tq qb]) hHeld ?_;simp only [Act.put, sz];refine zNW (i := 5) (.bool (!decide ((ka, kb) = (qa, qb)))) rfl (by kernel_rfl) (by kernel_rfl) (by kernel_rfl) (fun _ _ _ h => h) (by rfl) (fun w hSw => by go_simp; simp only [zPf]; by_cases e1 : ka = qa <;> by_cases e2 : kb = qb <;> simp [e1, e2]) hHeld ?_;simp only [Act.put, sz];refine tkv 6 (.bool (!decide ((ka, kb) = (qa, qb)))) hHeld ?_;simp only [Act.put, sz];refine tkd ?_;clear hHeld;go_wp2_with fail;go_roundg (q - (m + 1))
        case measure => omega
        exact ⟨m + 1, _, by go_num, rfl, HB8.o, by omega, by omega, HBD⟩
      | false =>
      have hF : zA1 P ks (q + 1) = zA1 P ks q := by
        rw [zGa (show ks[q]? = some k by rw [<- HKM.o]; exact xai HLT.o)];refine xad (zA1 P ks q + ·) (xag fun e => ?_);rw [xaP, xbA] at e;rw [Bool.and_eq_false_iff] at hb
        rcases hb with hb | hb
        · rw [hb] at e; exact absurd e.1 Bool.false_ne_true
        rw [zLv (by omega) (by simpa using hb)] at e; exact absurd e.2.symm Bool.false_ne_true
      have HJ9 := hid (zA HJ7.o HJ7.o.size HM8.o);clear hb;go_wp2_with fail;go_roundg (ks.length - (q + 1))
      case measure => omega
      exact ⟨q + 1, by go_num, xad (fun x : Nat => Value.int .i64 x) hF.symm, by omega, by omega, by omega, HJ9⟩
    have hltz8 : ¬ (m : Int) < (q : Int) := by omega
    have em : m = q := by omega
    subst em;have hF := zGa (P := P) (show ks[m]? = some k by rw [<- HKM.o]; exact xai HLT.o);rw [hb] at hF;have HJ9 := hid (zA HJ7.o HJ7.o.size HM8.o);clear hb
    cases b with
    | true =>
      rw [xae rfl] at hF;go_wp2_with fail;go_roundg (ks.length - (m + 1))
      case measure => omega
      exact ⟨m + 1, by go_num, by rw [hF]; go_num, by omega, by omega, by omega, HJ9⟩
    | false =>
    rw [xag Bool.false_ne_true, Nat.add_zero] at hF;go_wp2_with fail;go_roundg (ks.length - (m + 1))
    case measure => omega
    exact ⟨m + 1, by go_num, xad (fun x : Nat => Value.int .i64 x) hF.symm, by omega, by omega, by omega, HJ9⟩
  have hltz7 : ¬ (q : Int) < (ks.length : Int) := by omega
  have em : q = ks.length := by omega
  subst em;obtain ⟨Z, hs, hback⟩ := (HX4.o.on HQ.o).call;have HL := hid (show Calls _ _ _ _ (fun e w' => e = .returned (iu S.last) /\ Sto _ _ _ _ _ _ w') from pV (S := uH S) hs);have hEA : ((zT (uH S).D : Nat) : Int) = (zA1 P ks ks.length : Int) := by rw [HEA.o]
  clear hs hback HQ hq hgq hlt7;go_wp2_with fail;clear hltz7;refine HL.o.mono ?_;rintro e u5 ⟨rfl, hs⟩;have HC := hid (mL (S := uH S) hs hni);clear hs HL;go_wp2_with fail;refine HC.o.mono ?_;rintro e u6 ⟨rfl, hs⟩;have HO := hid (show Calls _ _ _ _ (fun e w' => e = .returned (ii (yY (xR S) : Nat)) /\ Sto _ _ _ _ _ _ w') from zCV (S := uH S) hs);clear hs HC;go_wp2_with fail;refine HO.o.mono ?_;rintro e u7 ⟨rfl, hs⟩;rw [HNO.o];have HE := hid (HBW.o _ hs.bel);clear hs HO;go_wp2_with fail;go_ret;exact ⟨rfl, HE.o⟩
end
theorem zK {a b:Bool} (d:a=true) (c:b=true):(a&&b)=true:=by rw [d,c];rfl
theorem dJ:(Rows.storeVacuumsUptoRow.wf (OpenSpec.ofChange (Rows.OpenSpec.upto Rows.storeVacuumsSpec).bare))=true:=by kernel_rfl
theorem dI:(laidOutB Tryz.pinned.checked.prog)=true:=by kernel_rfl
theorem dG:(mapsRowed Tryz.pinned.checked.prog)=true:=by kernel_rfl
theorem dL:(Tryz.f6.params.all (Tryz.pinned.checked.prog.readableRec ·))=true:=by kernel_rfl
theorem dN:(namedTie Tryz.pinned.checked.prog Rows.storeVacuumsUptoRow.named (Rows.OpenSpec.upto Rows.storeVacuumsSpec).bare.vars)=true:=by kernel_rfl
theorem dP:((Rows.storeVacuumsUptoRow.stops==[]))=true:=by kernel_rfl
theorem dR:((Tryz.pinned.checked.prog.stops==[]))=true:=by kernel_rfl
theorem dS:((Rows.storeVacuumsUptoRow.knobs==[]))=true:=by kernel_rfl
theorem dT:((Tryz.pinned.checked.prog.stopKnobs==[]))=true:=by kernel_rfl
theorem dO:((Rows.storeVacuumsUptoRow.inPlace==Tryz.pinned.checked.prog.inPlace 6))=true:=by kernel_rfl
theorem kS:((Rows.storeVacuumsUptoRow.unfollowed==Tryz.pinned.checked.prog.unfollowed 6))=true:=by kernel_rfl
theorem fB:((Rows.storeVacuumsUptoRow.recurses==Tryz.pinned.checked.prog.recurses 6))=true:=by kernel_rfl
theorem kT:((Rows.storeVacuumsUptoRow.named==Tryz.pinned.checked.prog.varsNamed 6))=true:=by kernel_rfl
theorem fH:((Rows.storeVacuumsUptoRow.maps==(Tryz.f6.params.toList++(Rows.OpenSpec.upto Rows.storeVacuumsSpec).bare.plain.varTypes Tryz.pinned.checked.prog).any (Tryz.pinned.checked.prog.mapsRec ·)))=true:=by kernel_rfl
theorem gI:((Rows.storeVacuumsUptoRow.ifaces==(Tryz.f6.params.toList++(Rows.OpenSpec.upto Rows.storeVacuumsSpec).bare.plain.varTypes Tryz.pinned.checked.prog).any (Tryz.pinned.checked.prog.ifacesRec ·)))=true:=by kernel_rfl
theorem gU:((Rows.storeVacuumsUptoRow.mapsOut==Tryz.pinned.checked.prog.mapsAmong Tryz.f6.resultTypes.toList))=true:=by kernel_rfl
theorem gB:((Rows.storeVacuumsUptoRow.loops==(Tryz.f6.params.toList++(Rows.OpenSpec.upto Rows.storeVacuumsSpec).bare.plain.varTypes Tryz.pinned.checked.prog).any (Tryz.pinned.checked.prog.loopsFrom ·)))=true:=by kernel_rfl
theorem fC:((Rows.storeVacuumsUptoRow.wideKeys==(Tryz.f6.params.toList++(Rows.OpenSpec.upto Rows.storeVacuumsSpec).bare.plain.varTypes Tryz.pinned.checked.prog++Tryz.f6.resultTypes.toList).any (Tryz.pinned.checked.prog.wideKeysFrom ·)))=true:=by kernel_rfl
theorem kX:((Rows.OpenSpec.upto Rows.storeVacuumsSpec).bare.vars.all (Tryz.pinned.checked.prog.varReadable ·))=true:=by kernel_rfl
theorem gT:(Tryz.f6.resultTypes.all (fun t=>Tryz.pinned.checked.prog.readableRec t&&decide (t<Tryz.pinned.checked.prog.types.size)))=true:=by kernel_rfl
theorem kZ:((Rows.storeVacuumsUptoRow.ifacesOut==Tryz.f6.resultTypes.toList.any (Tryz.pinned.checked.prog.ifacesRec ·)))=true:=by kernel_rfl
theorem kP:((Rows.storeVacuumsUptoRow.loopsOut==Tryz.f6.resultTypes.toList.any (Tryz.pinned.checked.prog.loopsFrom ·)))=true:=by kernel_rfl
theorem gV:((Rows.storeVacuumsUptoRow.plainKeys==Tryz.pinned.checked.prog.plainKeys))=true:=by kernel_rfl
theorem gS:(Rows.storeVacuumsUptoRow.shortTexts.isNone)=true:=by kernel_rfl
theorem kV:(Tryz.pinned.checked.prog.stopsHeard)=true:=by kernel_rfl
theorem gM:(Tryz.pinned.checked.prog.mayEnter)=true:=by kernel_rfl
theorem kQ:((Rows.storeVacuumsUptoRow.lifted==Tryz.pinned.checked.prog.liftsFinal))=true:=by kernel_rfl
theorem kM:((Tryz.pinned.checked.prog.make==some Rows.storeVacuumsUptoRow.make))=true:=by kernel_rfl
theorem gP:((Rows.storeVacuumsUptoRow.kinds==(if Rows.storeVacuumsUptoRow.domain.isEmpty then [] else Tryz.f6.params.toList.map fun t=>match Tryz.pinned.checked.prog.underlying t with|some (.int k)=>some k|_=>none)))=true:=by kernel_rfl
theorem kO:((Rows.storeVacuumsUptoRow.pinned==Rows.storeVacuumsUptoRow.pinnedBy))=true:=by kernel_rfl
theorem fI:((Rows.storeVacuumsUptoRow.veiled==(Tryz.f6.params.toList++(Rows.OpenSpec.upto Rows.storeVacuumsSpec).bare.plain.varTypes Tryz.pinned.checked.prog++Tryz.f6.resultTypes.toList).any (Tryz.pinned.checked.prog.veiledRec ·)))=true:=by kernel_rfl
theorem gD:(Rows.storeVacuumsUptoRow.veiledFits Tryz.pinned.checked.prog Tryz.f6.params.toList (Tryz.f6.params.toList++(Rows.OpenSpec.upto Rows.storeVacuumsSpec).bare.plain.varTypes Tryz.pinned.checked.prog++Tryz.f6.resultTypes.toList))=true:=by kernel_rfl
end Go.Proofs.YtkhljboeffhciaaGreat
