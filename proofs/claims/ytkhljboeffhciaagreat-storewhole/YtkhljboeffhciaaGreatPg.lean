/- A part of the proof. -/
import Derived.Test.YtkhljboeffhciaaGreatPf
import Derived.JoinedOf
set_option maxHeartbeats 40000000
set_option maxRecDepth 100000
set_option linter.unusedSimpArgs false
open Go.RowKit Go.Proofs.Tryz
namespace Go.Proofs.YtkhljboeffhciaaGreat
theorem wT.box {d:World} {Z:List (Nat × Obj)} {e h:Nat} {b:List Nat} {S:Sv} {w w':World} {B:Nat} (x:Sto d Z e h b S w) (g:Below w.heap.size w w') (f:w.heap.size=B):wT d Z e h b S B w' w':=fun i a=>x.pins g i fun p c=>⟨by rw [f];exact (a p c).1,(a p c).2⟩
theorem zHC {A B:Nat} {w:World} {n:Int} (h:w.heap[B]? = some (.cells #[.int .i64 n] 3 (0,0))) (a:A<=B):KIn.Own A w (.slice (some ⟨B,0,none⟩) 1 1) [n]:=zD.own_mk rfl a h (zaL _) (by unfold maxLen;decide) rfl rfl
theorem zLe {A B:Nat} {w:World} {n m k:Int} (h:w.heap[B]? = some (.cells #[.int .i64 n,.int .i64 m,.int .i64 k] 3 (0,0))) (a:A<=B):KIn.Own A w (.slice (some ⟨B,0,none⟩) 3 3) [n,m,k]:=zD.own_mk rfl a h (zaL _) (by unfold maxLen;decide) rfl rfl
theorem zOM {m:World} {ZU Z:List (Nat × Obj)} {L h R:Nat} {y:List Nat} {r:Rn} {p:Option Addr} {c:Nat} {l:List Nat} {w X C:World} {Q g d u:Nat} {t:Array Value} (x:qZ m ZU L h R y r Z (.slice p l.length c) l w) (hQ:w.heap.size=Q) (P:Sto m (doB Q t++Z) (L+1) h (y++[g]) (xV r.S) X) (Y:yP KTx m.heap.size m (.slice (some ⟨d,0,none⟩) (l.length+1) u) (l++[g]) C) (r2:X.grownBy C (Value.slice p l.length c).ownBlock) (I:(Value.slice p l.length c).ownBlock=some d∨d=X.heap.size) (aw:Q+2<=X.heap.size):(C.heap[R]? = some (.cells #[.pointer (some ⟨h,0,none⟩),.slice p l.length c] 34 (0,0))/\C.heap[Q+1]? = some (.cells zOt 52 (0,0))) /\
  ∀n,Fr (fun b=>b=R) C n->n.heap[R]? = some (.cells #[.pointer (some ⟨h,0,none⟩),.slice (some ⟨d,0,none⟩) (l.length+1) u] 34 (0,0))->(CC 12 #[.pointer (some ⟨g,0,none⟩)] n fun e w'=>e=.returned (.int .u64 r.S.last)/\w'=n)/\n.heap[Q+1]? = some (.cells zOt 52 (0,0)) /\
  ∀z,Fr (fun b=>b=Q+1) n z->nU m ZU (L+1) h R y ({ stamp:=r.S.last },⟨xV r.S,r.ids++[r.S.txs.length]⟩) w (.returned (.agg (zU { st:=r.S.last }).toArray)) z:=by
 have am:=(zaW (show C.ownsRow m.heap.size KTx.T KTx.k _ _ (KTx.cells (l++[g])) from Y.own) d rfl)
 obtain ⟨o,F⟩:=P.grown2 (v:=.slice p l.length c) (fun k A=>⟨by
  have:=zaW (show w.ownsRow m.heap.size KTx.T KTx.k _ _ (KTx.cells l) from x.row.own) k A
  exact this.1,by
  obtain ⟨b,hb⟩:=(x.own k A).2.1
  exact ⟨b,zaG (xaf hb)⟩⟩) r2 I am.2
 have ax:=x.lt
 have J:∀q∈doB Q t,q∈(d,o)::(doB Q t++Z).filter (fun f=>!decide ((Value.slice p l.length c).ownBlock=some f.1)):=fun q a=>xay _ (List.mem_filter.2 ⟨zaG (xac a),by
  have D:=(zBr a).1
  simp only [xbA,xa0]
  intro e
  have:=x.olt e
  omega⟩)
 have ad:(R,Obj.cells #[.pointer (some ⟨h,0,none⟩),.slice p l.length c] 34 (0,0))∈(d,o)::(doB Q t++Z).filter (fun f=>!decide ((Value.slice p l.length c).ownBlock=some f.1)):=xay _ (List.mem_filter.2 ⟨zaG (xaf x.box),by
  simp only [xbA,xa0]
  intro e
  exact (x.own _ e).1 rfl⟩)
 have af:d≠R:=by
  rcases I with e|e
  ·exact (x.own _ e).1
  have:=P.low (zaG (xaf x.box))
  simp only at this
  omega
 refine ⟨⟨F.got ad,F.got (J _ (by unfold doB;simp))⟩,fun n O h6=>?_⟩
 have B:=F.turn ad O x.base h6
 have ac:=x.sto.len
 have ht:(xV r.S).txs[y.length]? = some (nT r.S.last):=by
  rw [ac]
  unfold xV
  simp
 have ah:n.heap[Q+1]? = some (.cells zOt 52 (0,0)):=(O.block _ (by have:=(Array.getElem?_eq_some_iff.1 (F.got (J (Q+1,.cells zOt 52 (0,0)) (by unfold doB;simp)))).1;exact this) (by omega)).trans (F.got (J _ (by unfold doB;simp)))
 refine ⟨zOI B (i:=y.length) (g:=g) (by simp) ht,ah,fun z H=>?_⟩
 have N:∀q,(q∈doB Q t∨(q∈Z/\(Value.slice p l.length c).ownBlock≠some q.1))->q.1≠R->q∈(R,Obj.cells #[.pointer (some ⟨h,0,none⟩),.slice (some ⟨d,0,none⟩) (l.length+1) u] 34 (0,0))::((d,o)::(doB Q t++Z).filter (fun f=>!decide ((Value.slice p l.length c).ownBlock=some f.1))).filter (fun f=>!decide (f.1=R)):=fun q a V=>by
  refine xay _ (List.mem_filter.2 ⟨?_,by simpa using V⟩)
  rcases a with a|⟨a,au⟩
  ·exact J q a
  exact xay _ (List.mem_filter.2 ⟨zaG (xaf a),by simpa using au⟩)
 have U:(d,o)∈(R,Obj.cells #[.pointer (some ⟨h,0,none⟩),.slice (some ⟨d,0,none⟩) (l.length+1) u] 34 (0,0))::((d,o)::(doB Q t++Z).filter (fun f=>!decide ((Value.slice p l.length c).ownBlock=some f.1))).filter (fun f=>!decide (f.1=R)):=xay _ (List.mem_filter.2 ⟨zaH ..,by simpa using af⟩)
 obtain ⟨G,ab⟩:∃G,(R,Obj.cells #[.pointer (some ⟨h,0,none⟩),.slice (some ⟨d,0,none⟩) (l.length+1) u] 34 (0,0))::((d,o)::(doB Q t++Z).filter (fun f=>!decide ((Value.slice p l.length c).ownBlock=some f.1))).filter (fun f=>!decide (f.1=R))=G:=⟨_,rfl⟩
 have av:(R,Obj.cells #[.pointer (some ⟨h,0,none⟩),.slice (some ⟨d,0,none⟩) (l.length+1) u] 34 (0,0))∈G:=by rw [<-ab];exact zaH ..
 rw [ab] at B N U
 have an:(Q+1,Obj.cells zOt 52 (0,0))∈G:=N _ (xac (by unfold doB;simp)) (by simp only;omega)
 have W:Sto m (G.filter (fun f=>!decide (f.1=Q+1))) (L+1) h (y++[g]) (xV r.S) z:=by
  have a:=(H.block (Q+1) · ·)
  obtain ⟨cc,⟨s,pp,gg,e1,e2,K⟩,hl,hz⟩:=B.ex
  refine ⟨⟨cc,⟨s,pp.fr H fun j _ e=>by rw [e];exact (hz _ an).2,gg,e1,e2,K⟩,hl,fun q a=>?_⟩,B.bel.trans (H.below B.bel.size fun j hj=>by have:=x.sto.bel.size;omega)⟩
  obtain ⟨h0,h9⟩:=List.mem_filter.1 a
  obtain ⟨D,E⟩:=hz q h0
  exact ⟨(H.block _ (Array.getElem?_eq_some_iff.1 D).1 (by simpa using h9)).trans D,E⟩
 have aq:∀q,(q∈Z/\(Value.slice p l.length c).ownBlock≠some q.1)->q.1≠R->q∈G.filter (fun f=>!decide (f.1=Q+1)):=fun q a V=>List.mem_filter.2 ⟨N q (xaf a) V,by
  have:=x.sto.low a.1
  simp only [xbA,xa0]
  omega⟩
 have ag:d≠Q+1:=by
  rcases I with e|e
  ·have:=x.olt e
   omega
  omega
 refine ⟨{ st:=r.S.last },z.heap.size,z,y++[g],rfl,⟨(yG _ _).ver,(yG _ _).fnd,(yG _ _).vrs,(yG _ _).num,(yG _ _).mrk,(yG _ _).chg⟩,rfl,?_,fun i q a=>by grind,fun M ao=>?_⟩
 ·have:=H.size
  have:=O.size
  have:=r2.size
  omega
 have ar:M=[]:=by
  cases M with
  | nil=>rfl
  | cons q M =>
  obtain ⟨D,E⟩:=ao q (zaH ..)
  have:=(Array.getElem?_eq_some_iff.1 E).1
  omega
 subst ar
 rw [xbe]
 have al:yP KTx m.heap.size m (.slice (some ⟨d,0,none⟩) (l.length+1) u) (l++[g]) z:=by
  have ae:=B.got U
  have ap:=F.got (zaH ..:(d,o)∈_)
  have ak:=(H.block d (Array.getElem?_eq_some_iff.1 ae).1 ag).trans ae
  exact ⟨cZ Y.own fun k A=>by
   have e:d=k:=zaP A
   rw [<-e,ak,ap],W.bel,W.bel.size⟩
 refine ⟨_,_,_,W,fun q a=>aq q ⟨x.sub q a,fun e=>(x.own _ e).2.2 q a rfl⟩ (x.off q a),List.mem_filter.2 ⟨av,by simp only [xbA,xa0];omega⟩,al,by simp [x.len],fun j i hi=>?_,fun k A=>?_,x.off,x.base⟩
 ·by_cases hj:j<r.ids.length
  ·rw [xa7 hj] at hi
   obtain ⟨gq,D,E⟩:=x.ids j i hi
   have ai:j<l.length:=by rw [x.len];exact hj
   exact ⟨gq,by rw [xa7 ai];exact D,by rw [xa7 (List.getElem?_eq_some_iff.1 E).1];exact E⟩
  have aj:j=r.ids.length:=by
   have:=(List.getElem?_eq_some_iff.1 hi).1
   simp at this
   omega
  subst aj
  have hi':i=r.S.txs.length:=by simpa using hi.symm
  subst hi'
  exact ⟨g,by rw [<-x.len];simp,by rw [<-ac];simp⟩
 have e:d=k:=zaP A
 subst e
 refine ⟨af,⟨o,List.mem_filter.2 ⟨U,by simp only [xbA,xa0];exact ag⟩⟩,fun q a e=>?_⟩
 rcases I with K|K
 ·exact (x.own _ K).2.2 q a e
 have:=P.low (zaG (xaf (x.sub q a)))
 omega
theorem zMs {q:World} {Z:List (Nat × Obj)} {u h:Nat} {j:List Nat} {S:Sv} {w:World} (x:Sto q Z u h j S w) (k:Ky) (g:yE k) (t:Int):CC 22 #[.pointer (some ⟨h,0,none⟩),.agg #[.string k.1,.string k.2],.int .u64 t] w fun e a=>∃z:Vx,e=.returned (.tuple #[.agg (zF z).toArray,.bool (vL S.D t k).isSome])/\z.ver=(vL S.D t k).getD zeroV/\(zX w.heap.size a z.sl z.o/\yV z.o)/\Below w.heap.size w a:=by
 have l:=x.okS
 obtain ⟨⟨c,⟨s,p,f,rfl,rfl,rfl⟩,y,B⟩,A⟩:=x
 refine (jA p.stat p.dirS k g t).mono ?_
 rintro e a m
 obtain ⟨z,b,rfl,n,d,i,r⟩:=zBu m fun v d=>l.may k v (zFU d)
 rw [n]
 exact ⟨z,rfl,d,i,r⟩
theorem qZ.pick {v:World} {n Z:List (Nat × Obj)} {y h R:Nat} {f:List Nat} {r:Rn} {p:Option Addr} {c:Nat} {l:List Nat} {w:World} (x:qZ v n y h R f r Z (.slice p l.length c) l w) {j:Nat} (hj:j<l.length) (o:O15) (s:o.x=(j:Int)) (a:o.kind≠1/\o.kind≠16/\o.kind≠17/\o.kind≠18/\o.kind≠19):∃g b e i tx,p=some ⟨b,e,none⟩/\w.cell? ⟨b,e+j,none⟩=some (.pointer (some ⟨g,0,none⟩))/\f[i]? = some g/\r.S.txs[i]? = some tx/\qW r o=((mF r.S i tx o).1,⟨(mF r.S i tx o).2,r.ids⟩):=by
 have hj':j<r.ids.length:=by rw [<-x.len];exact hj
 obtain ⟨g,z,k⟩:=x.ids j r.ids[j] (xai hj')
 have hi:r.ids[j]<r.S.txs.length:=by rw [<-x.sto.len];exact (List.getElem?_eq_some_iff.1 k).1
 obtain ⟨B,A,t,d⟩:=x.row.is
 injection t with e1 _ _
 subst e1
 rcases d with d|⟨b,e,m,d⟩
 ·rw [d] at hj;simp at hj
 have u:=d j hj 0 _ rfl
 have q:l[j]=g:=by
  have:=xai hj
  rw [z] at this
  exact (zaP this).symm
 refine ⟨g,b,e,r.ids[j],r.S.txs[r.ids[j]],m,?_,k,xai hi,?_⟩
 ·rw [<-q]
  simpa [KTx] using u
 unfold qW
 rw [xag a.1,xag a.2.1,xag a.2.2.1,xag a.2.2.2.1,xag a.2.2.2.2,xag (by omega),s]
 simp only [Int.toNat_natCast,xai hj',xai hi]
theorem dX {c:World} {Q:Nat} {ot:Ot} {P:World->Prop} (g:c.heap[Q+1]? = some (.cells zOt 52 (0,0))) (h:∀a,Fr (fun b=>b=Q+1) c a->P a):Hid (c.there (Q+1) 0 (zU ot).toArray.size/\(zU ot).toArray.all (·.oneCell')=true)/\∃a,Hid (c.setCells (Q+1) 0 (zU ot).toArray.toList=a/\P a/\Fr (fun b=>b=Q+1) c a)/\a.cell? ⟨Q+1,0,none⟩=some (.int .i64 ot.v.num)/\a.cell? ⟨Q+1,1,none⟩=some (.int .u64 ot.v.stamp)/\a.cell? ⟨Q+1,2,none⟩=some (.int .i64 ot.v.tick)/\a.cell? ⟨Q+1,3,none⟩=some (.bool ot.v.live)/\a.cell? ⟨Q+1,4,none⟩=some (.slice ot.v.p ot.v.o.length ot.v.cap)/\a.cell? ⟨Q+1,5,none⟩=some (.slice ot.fp ot.fs.length ot.fc)/\a.cell? ⟨Q+1,6,none⟩=some (.slice ot.wp ot.vs.length ot.wc)/\a.cell? ⟨Q+1,7,none⟩=some (.int .i64 ot.e)/\a.cell? ⟨Q+1,8,none⟩=some (.int .u64 ot.st)/\a.cell? ⟨Q+1,9,none⟩=some (.slice ot.np ot.ns.length ot.nc)/\a.cell? ⟨Q+1,10,none⟩=some (.bool ot.ok)/\a.cell? ⟨Q+1,11,none⟩=some (.slice ot.m.kp ot.m.ks.length ot.m.kc)/\a.cell? ⟨Q+1,12,none⟩=some (.slice ot.m.rp ot.m.rs.length ot.m.rc)/\a.cell? ⟨Q+1,13,none⟩=some (.slice ot.cp ot.cs.length ot.cc):=by
 obtain ⟨a,f⟩:∃a,c.setCells (Q+1) 0 (zU ot)=a:=⟨_,rfl⟩
 have j:(zU ot).length=zOt.size:=by rfl
 obtain ⟨i,d⟩:=vZ g j f
 exact ⟨hid ⟨(xU (cs:=zOt.toList) g).2,zOg ot⟩,a,hid ⟨f,h a d,d⟩,zFN i⟩
theorem zC8 {a:World} {Z:List (Nat × Obj)} {b h Q:Nat} {d:List Nat} {S:Sv} {c:Array Value} {V w:World} (hs:Hid (V.heap.size=Q+2)) (cs:Array Value) (x:Sto a (doB Q c++Z) b h d S w):∃B w5,Hid (w.heap.size=B/\w.alloc (.cells cs 3)=w5)/\Hid (w5.heap[B]? = some (.cells cs 3 (0,0))/\wT a (doB Q c++Z) b h d S B w5 w5/\V.heap.size<=B):=by
 refine ⟨_,_,hid ⟨rfl,rfl⟩,hid ⟨xab w _,wT.box x (zaQ) rfl,?_⟩⟩
 have:=x.low (p:=(Q+1,.cells zOt 52 (0,0))) (by unfold doB;simp)
 simp only at this
 have:=hs.out
 omega
theorem zAx {a:World} {Z:List (Nat × Obj)} {b h Q:Nat} {d:List Nat} {S:Sv} {c:Array Value} {w:World} (x:Sto a (doB Q c++Z) b h d S w):w.heap[Q+1]? = some (.cells zOt 52 (0,0)):=x.got (by unfold doB;simp)
theorem zMj {N:World} {ZU:List (Nat × Obj)} {Y h R:Nat} {gs:List Nat} {r:Rn} {w:World} (x:nP N ZU Y h R gs r w) (hn:Y<=80000000) (hl:r.ids.length<=100000000) (o:Ov) (ho:zBh w o):CC 9 #[.pointer (some ⟨R,0,none⟩),.agg (xN o).toArray] w fun e a=>nU N ZU (Y+1) h R gs (qW r o.op) w e a:=by
 obtain ⟨Z,v,l,x⟩:=x
 obtain ⟨am,q0,q1,ax⟩:=wX w (xN o).toArray zOt 40 52
 obtain ⟨V,hV⟩:∃V,(w.alloc (.cells (xN o).toArray 40)).alloc (.cells zOt 52)=V:=⟨_,rfl⟩
 obtain ⟨Q,hQ⟩:∃Q,w.heap.size=Q:=⟨_,rfl⟩
 rw [hV] at am q0 q1 ax
 rw [hQ] at q0 q1 ax
 have bh:=x.sto.pins am (doB Q (xN o).toArray) (zNQ hQ q0 q1)
 obtain ⟨p,c,rfl⟩:=x.shape
 have ch:=(x.on am).cells
 have G:=hid x
 have ai:=hid ax
 have HQ:=hid hQ
 have HO:=hid (ho.on am)
 have HB:=hid am
 have dl:l.length<=100000000:=by rw [x.len];exact hl
 obtain ⟨RR,bl⟩:∃RR,qW r o.op=RR:=⟨_,rfl⟩
 rw [bl]
 obtain ⟨C,hC⟩:∃C,(xN o).toArray=C:=⟨_,rfl⟩
 rw [hC] at bh q0
 have HV:=hid bh
 obtain ⟨L,F,J,H,vp,vc,vo,pp,pc,pt,I,t⟩:=o
 simp only [xN,Ov.op] at *
 have HR:=hid bl
 have HC:=hid hC
 have HS:Hid (∀a:World,a.heap[Q]? = some (.cells C 40 (0,0))->a.heap[R]? = some (.cells #[.pointer (some ⟨h,0,none⟩),.slice p l.length c] 34 (0,0))->(a.cell? ⟨R,0,none⟩=some (.pointer (some ⟨h,0,none⟩))/\a.cell? ⟨R,1,none⟩=some (.slice p l.length c)/\(a.cell? ⟨Q,2,none⟩=some (.string J)/\a.cell? ⟨Q,3,none⟩=some (.string H))/\a.cell? ⟨Q,6,none⟩=some (.int .u64 I)/\a.cell? ⟨Q,1,none⟩=some (.int .i64 F)/\a.cell? ⟨Q,7,none⟩=some (.int .i64 t))):=hid fun a q r=>by
  rw [<-HC.out] at q
  refine ⟨?_,?_,⟨?_,?_⟩,?_,?_,?_⟩<;>first|(rw [zaC q];rfl)|(rw [zaC r];rfl)
 have ag:Hid (∀(u a:World) (nr':Nat) (gs':List Nat) (S':Sv),Sto N (doB Q C++Z) nr' h gs' S' u->Fr (fun b=>b=Q+1) u a->(a.cell? ⟨R,0,none⟩=some (.pointer (some ⟨h,0,none⟩))/\a.cell? ⟨R,1,none⟩=some (.slice p l.length c)/\(a.cell? ⟨Q,2,none⟩=some (.string J)/\a.cell? ⟨Q,3,none⟩=some (.string H))/\a.cell? ⟨Q,6,none⟩=some (.int .u64 I)/\a.cell? ⟨Q,1,none⟩=some (.int .i64 F)/\a.cell? ⟨Q,7,none⟩=some (.int .i64 t))):=hid fun u a _ _ _ y f=>by
  have e1:=y.got (k:=Q) (b:=.cells C 40 (0,0)) (by unfold doB;simp)
  have e2:=y.got (zaG (xaf G.out.box))
  have:=G.out.lt
  have:=HQ.out
  exact HS.out _ ((f.block _ (Array.getElem?_eq_some_iff.1 e1).1 (by omega)).trans e1) ((f.block _ (Array.getElem?_eq_some_iff.1 e2).1 (by omega)).trans e2)
 have a0:V.cell? ⟨Q,0,none⟩=some (.int .i64 L):=by rw [<-hC] at q0;rw [zaC q0];rfl
 have ab:=HS.out V q0 ch
 clear x ho bh am q0 q1 ax ch bl hC
 unfold zOt at hV
 go_enter func9,ntmps9
 go_upto_region 1 with fail
 try rw [hV]
 try rw [hQ]
 clear hV hQ
 by_cases k1:L=1
 ·subst k1
  obtain ⟨i0,cc,de,dc,dg⟩:=xaL Tryz.infoX15
  have di:=hid cc
  obtain ⟨bd,bc,-⟩:=ab
  go_wp2_with fail
  refine (gP HV.out (by omega)).mono ?_
  rintro e3 w3 ⟨g,rfl,bg⟩
  obtain ⟨B,hB⟩:∃B,w3.heap.size=B:=⟨_,rfl⟩
  obtain ⟨X,hX⟩:∃X,w3.alloc (.cells #[.pointer (some ⟨g,0,none⟩)] 54)=X:=⟨_,rfl⟩
  have ah:=bg.on (show Below w3.heap.size w3 X by rw [<-hX];exact zaQ)
  have cp:Hid (X.heap[B]? = some (.cells (KTx.enc g).toArray 54 (0,0))):=hid (by rw [<-hX,<-hB];exact xab w3 _)
  have bi:Sto N Z (Y+1) h (gs++[g]) (xV r.S) X:=ah.sub fun p hp=>zaG (xaf hp)
  have bq:=hid (zCw G.out.row G.out.sto bi fun k hk=>(G.out.own k hk).2.1)
  have bk:=hid ah
  have x0:w3.cell? ⟨R,1,none⟩=some (.slice p l.length c):=by rw [zaC (bg.got (zaG (xaf G.out.box)))];rfl
  have x1:X.cell? ⟨R,1,none⟩=some (.slice p l.length c):=by rw [zaC (bi.got G.out.box)];rfl
  clear bg ah bi cc a0 bd bc
  go_upto_region 5 with (first|(at_builtin;(try rw [hB]);(try rw [hX]);refine wE KTx rfl _ _ 32 rfl i0 _ 8 underlying32 di.out de dc dg rfl N.heap.size N (.slice p l.length c) l rfl bq.out g B 1 1 rfl rfl _ _ cp.out (by unfold maxLen;omega) (by omega) ?_;intro T c3 w5 r1 r2 r3;obtain ⟨⟨ay,cq⟩,bv⟩:=zOM G.out HQ.out bk.out r1 r2 r3 (by have:=bk.out.low (p:=(Q+1,.cells zOt 52 (0,0))) (by unfold doB;simp);simp only at this;omega);have bo:=hid bv;have dh:=hid cq;have cj:=hid ay;have e1:w5.cell? ⟨R,1,none⟩=some (.slice p l.length c):=(by rw [zaC ay];rfl);have e2:w5.frozen? ⟨R,1,none⟩=false:=zaF ay 1;clear r1 r2 r3 bv cq ay x0 x1)|fail)
  obtain ⟨W6,az⟩:∃W6,w5.setCell ⟨R,1,none⟩ (.slice (some ⟨T,0,none⟩) (l.length+1) c3)=W6:=⟨_,rfl⟩
  try rw [az]
  obtain ⟨bx,bt,cr⟩:=bo.out W6 (by rw [<-az];exact zW w5 R 1 _) (by rw [<-az];exact xaa w5 R 1 _ _ _ cj.out)
  have ck:=hid bx
  have HF:=hid cr
  obtain ⟨E,j,s,g0,g1,g2,T,g4,g5,g6,g7,g8,g9,ad,ac,ae,af⟩:=dX (ot:={ st:=r.S.last }) (P:=fun j=>nU N ZU (Y+1) h R gs RR w (.returned (.agg (zU { st:=r.S.last }).toArray)) j) bt (fun j f=>by rw [<-HR.out];exact HF.out j f)
  clear bx cr bt bo dh cj e1 e2 az bk bq cp hX
  go_wp2_with fail
  refine ck.out.mono ?_
  rintro e7 w7 ⟨rfl,cg⟩
  rw [cg]
  clear cg ck
  go_wp2_with (refine zJ rfl 52 _ _ rfl (Q+1) 0 (zU { st:=r.S.last }).toArray rfl rfl E.out.1 Tryz.outSize E.out.2 j s.out.1 ?_)
  exact zaB (v:=.agg (zU { st:=r.S.last }).toArray) (by simp [results,results9,go_sem,zU,g0,g1,g2,T,g4,g5,g6,g7,g8,g9,ad,ac,ae,af]) rfl s.out.2.1
 by_cases k16:L=16
 ·subst k16
  obtain ⟨bd,bc,-⟩:=ab
  go_wp2_with fail
  refine (zC7 HV.out (by omega)).mono ?_
  rintro e4 w4 ⟨rfl,ah⟩
  obtain ⟨B,w5,O,H5⟩:=zC8 ai #[.int .i64 (sJ r.S.D (zY r.S):Nat)] ah
  obtain ⟨ak,m,M⟩:=H5.out
  obtain ⟨E,j,s,g0,g1,g2,T,g4,g5,g6,g7,g8,g9,ad,ac,ae,af⟩:=dX (ot:={ st:=zY r.S,np:=some ⟨B,0,none⟩,nc:=1,ns:=[(sJ r.S.D (zY r.S):Int)] }) (P:=fun j=>nU N ZU (Y+1) h R gs RR w (.returned (.agg (zU { st:=zY r.S,np:=some ⟨B,0,none⟩,nc:=1,ns:=[(sJ r.S.D (zY r.S):Int)] }).toArray)) j) (zAx m.sto) (fun j f=>by rw [<-HR.out];exact zAd G.out HQ.out ai.out (ot:={ st:=zY r.S,np:=some ⟨B,0,none⟩,nc:=1,ns:=[(sJ r.S.D (zY r.S):Int)] }) M (m.mono (xax _)) (fun _ _ e=>e) f ({ yG B w5 with num:=zHC ak (zaL _) }) rfl)
  clear ak m M ah bd bc
  go_wp2_with (first|(refine zJ rfl 52 _ _ rfl (Q+1) 0 (zU { st:=zY r.S,np:=some ⟨B,0,none⟩,nc:=1,ns:=[(sJ r.S.D (zY r.S):Int)] }).toArray rfl rfl E.out.1 Tryz.outSize E.out.2 j s.out.1 ?_)|(simp only [O.out.1,O.out.2];refine zJ rfl 52 _ _ rfl (Q+1) 0 (zU { st:=zY r.S,np:=some ⟨B,0,none⟩,nc:=1,ns:=[(sJ r.S.D (zY r.S):Int)] }).toArray rfl rfl E.out.1 Tryz.outSize E.out.2 j s.out.1 ?_))
  exact zaB (v:=.agg (zU { st:=zY r.S,np:=some ⟨B,0,none⟩,nc:=1,ns:=[(sJ r.S.D (zY r.S):Int)] }).toArray) (by simp [results,results9,go_sem,zU,g0,g1,g2,T,g4,g5,g6,g7,g8,g9,ad,ac,ae,af]) rfl s.out.2.1
 by_cases k17:L=17
 ·subst k17
  go_upto_region 10 with fail
  refine tkb (S:=fun a=>a.cell? ⟨R,0,none⟩=some (.pointer (some ⟨h,0,none⟩))/\a.cell? ⟨R,1,none⟩=some (.slice p l.length c)/\(a.cell? ⟨Q,2,none⟩=some (.string J)/\a.cell? ⟨Q,3,none⟩=some (.string H))/\a.cell? ⟨Q,6,none⟩=some (.int .u64 I)/\a.cell? ⟨Q,1,none⟩=some (.int .i64 F)/\a.cell? ⟨Q,7,none⟩=some (.int .i64 t)) ab fun hA=>?_
  refine tkv 0 (.pointer (some ⟨R,0,none⟩)) hA ?_
  simp only [Act.put,sz]
  refine tkv 1 (.pointer (some ⟨R,0,none⟩)) hA ?_
  simp only [Act.put,sz]
  refine tkv 2 (.pointer (some ⟨R,0,none⟩)) hA ?_
  simp only [Act.put,sz]
  refine tkv 3 (.pointer (some ⟨h,0,none⟩)) hA ?_
  simp only [Act.put,sz]
  refine tkv 4 (.pointer (some ⟨Q,7,none⟩)) hA ?_
  simp only [Act.put,sz]
  refine tkv 5 (.int .i64 t) hA ?_
  simp only [Act.put,sz]
  clear hA ab
  refine xaA (rs:=[6]) (by kernel_rfl) (by simp) ?_
  refine xao (zB rfl) (fun K d=>?_) xau
  rw [xae (by rfl)]
  go_simp
  refine (zOB (HV.out.on (zG (zaR V.heap.size V) 1)) t HO.out.n1).mono ?_
  rintro e4 w4 ⟨rfl,ah⟩
  obtain ⟨B,w5,O,H5⟩:=zC8 ai #[.int .i64 (xR r.S.tick t)] ah
  obtain ⟨ak,m,M⟩:=H5.out
  obtain ⟨E,j,s,g0,g1,g2,T,g4,g5,g6,g7,g8,g9,ad,ac,ae,af⟩:=dX (ot:={ np:=some ⟨B,0,none⟩,nc:=1,ns:=[xR r.S.tick t] }) (P:=fun j=>nU N ZU (Y+1) h R gs RR w (.returned (.agg (zU { np:=some ⟨B,0,none⟩,nc:=1,ns:=[xR r.S.tick t] }).toArray)) j) (zAx m.sto) (fun j f=>by rw [<-HR.out];exact zAd G.out HQ.out ai.out (ot:={ np:=some ⟨B,0,none⟩,nc:=1,ns:=[xR r.S.tick t] }) M (m.mono (xax _)) (fun _ _ e=>e) f ({ yG B w5 with num:=zHC ak (zaL _) }) rfl)
  have ca:=ag.out _ _ _ _ _ ah (Fr.refl _ _)
  have aj:=ag.out _ _ _ _ _ m.sto (Fr.refl _ _)
  have al:=ag.out _ _ _ _ _ m.sto s.out.2.2
  clear ak m M ah a0
  refine d.out _ _ ca (fun hA=>?_)
  clear d K
  try simp only [Act.put,sz]
  clear hA ca
  refine xaA (rs:=[7]) (by kernel_rfl) (by simp) ?_
  refine xao (zB rfl) (fun K d=>?_) xau
  rw [xae (by rfl)]
  go_simp
  go_wp2_with fail
  rw [O.out.1,O.out.2]
  refine d.out _ _ aj (fun hA=>?_)
  clear d K
  try simp only [Act.put,sz]
  clear aj
  refine tkv 8 (.agg #[.int .i64 0,.int .u64 0,.int .i64 0,.bool false,.slice none 0 0,.slice none 0 0,.slice none 0 0,.int .i64 0,.int .u64 0,.slice (some ⟨B,0,none⟩) 1 1,.bool false,.slice none 0 0,.slice none 0 0,.slice none 0 0]) hA ?_
  simp only [Act.put,sz]
  clear hA
  refine xaA (rs:=[9]) (by kernel_rfl) (by simp) ?_
  refine xao (zB rfl) (fun K d=>?_) xau
  rw [xae (by rfl)]
  refine xbH 52 _ _ rfl (Q+1) 0 (zU { np:=some ⟨B,0,none⟩,nc:=1,ns:=[xR r.S.tick t] }).toArray rfl rfl E.out.1 Tryz.outSize E.out.2 ?_
  rw [s.out.1]
  refine d.out _ _ al (fun hA=>?_)
  clear d K
  try simp only [Act.put,sz]
  refine tkd ?_
  clear hA al
  go_wp2_with fail
  exact zaB (v:=.agg (zU { np:=some ⟨B,0,none⟩,nc:=1,ns:=[xR r.S.tick t] }).toArray) (by simp [results,results9,go_sem,zU,g0,g1,g2,T,g4,g5,g6,g7,g8,g9,ad,ac,ae,af]) rfl s.out.2.1
 by_cases k18:L=18
 ·subst k18
  obtain ⟨ao,bf⟩:∃ao,vL r.S.D I (J,H)=ao:=⟨_,rfl⟩
  obtain ⟨W,bm⟩:∃W,ao.isSome=W:=⟨_,rfl⟩
  have bp:Hid (∀W',Below w.heap.size w W'->CC 22 #[.pointer (some ⟨h,0,none⟩),.agg #[.string J,.string H],.int .u64 I] W' fun e a=>∃z:Vx,e=.returned (.tuple #[.agg (zF z).toArray,.bool W])/\z.ver=ao.getD zeroV/\(zX W'.heap.size a z.sl z.o/\yV z.o)/\Below W'.heap.size W' a):=hid fun W' q=>by rw [<-bm,<-bf];exact zMs (G.out.sto.on q) (J,H) HO.out.key I
  have aw:Hid (({ ver:=ao.getD zeroV,ok:=W },⟨r.S,r.ids⟩)=RR):=hid (by rw [<-HR.out,<-bm,<-bf];rfl)
  have ap:Hid (∀a,Below V.heap.size V a->(a.cell? ⟨R,0,none⟩=some (.pointer (some ⟨h,0,none⟩))/\a.cell? ⟨R,1,none⟩=some (.slice p l.length c)/\(a.cell? ⟨Q,2,none⟩=some (.string J)/\a.cell? ⟨Q,3,none⟩=some (.string H))/\a.cell? ⟨Q,6,none⟩=some (.int .u64 I)/\a.cell? ⟨Q,1,none⟩=some (.int .i64 F)/\a.cell? ⟨Q,7,none⟩=some (.int .i64 t))):=hid fun a q=>ag.out _ _ _ _ _ (HV.out.on q) (Fr.refl _ _)
  clear bf bm
  go_upto_region 12 with fail
  clear a0
  go_cut [8,9] from 10 (fun v8 v9 wx=>∃(z:Vx) (B:Nat),v8=.pointer (some ⟨B,0,none⟩)/\v9=.bool W/\Hid (AtC V ao z B wx))
  case first =>
   refine tkb (S:=fun a=>a.cell? ⟨R,0,none⟩=some (.pointer (some ⟨h,0,none⟩))/\a.cell? ⟨R,1,none⟩=some (.slice p l.length c)/\(a.cell? ⟨Q,2,none⟩=some (.string J)/\a.cell? ⟨Q,3,none⟩=some (.string H))/\a.cell? ⟨Q,6,none⟩=some (.int .u64 I)/\a.cell? ⟨Q,1,none⟩=some (.int .i64 F)/\a.cell? ⟨Q,7,none⟩=some (.int .i64 t)) ab fun hA=>?_
   refine tkv 0 (.pointer (some ⟨R,0,none⟩)) hA ?_
   simp only [Act.put,sz]
   refine tkv 1 (.pointer (some ⟨R,0,none⟩)) hA ?_
   simp only [Act.put,sz]
   refine tkv 2 (.pointer (some ⟨R,0,none⟩)) hA ?_
   simp only [Act.put,sz]
   refine tkv 3 (.pointer (some ⟨h,0,none⟩)) hA ?_
   simp only [Act.put,sz]
   refine tkv 4 (.pointer (some ⟨Q,2,none⟩)) hA ?_
   simp only [Act.put,sz]
   refine tkv 5 (.agg #[.string J,.string H]) hA ?_
   simp only [Act.put,sz]
   refine tkv 6 (.pointer (some ⟨Q,6,none⟩)) hA ?_
   simp only [Act.put,sz]
   refine tkv 7 (.int .u64 I) hA ?_
   simp only [Act.put,sz]
   clear hA ab
   have av:Hid (Below V.heap.size V V.drew):=hid (zG (zaR _ V) 1)
   generalize V.drew=X1 at *
   refine xaA (rs:=[8,12]) (by kernel_rfl) (by simp) ?_
   refine xao (zB rfl) (fun K d=>?_) (xao (zB rfl) (fun K d=>?_) xau)
   rw [xae (by rfl)]
   go_simp
   refine (bp.out X1 (zA HB.out HB.out.size av.out)).mono ?_
   rintro e2 u2 ⟨z,rfl,aq,⟨ar,au⟩,an⟩
   obtain ⟨B,u3,O,HM⟩:=zAy av.out aq ar au an
   have cb:=hid (zA av.out av.out.size an)
   clear aq ar au an
   go_wp2_with fail
   refine d.out _ _ (ap.out u2 cb.out) (fun hA=>?_)
   clear d K
   try simp only [Act.put,sz]
   refine tkv 9 (.tuple #[.agg (zF z).toArray,.bool W]) hA ?_
   simp only [Act.put,sz]
   refine tkv 10 (.agg (zF z).toArray) hA ?_
   simp only [Act.put,sz]
   refine tkv 11 (.bool W) hA ?_
   simp only [Act.put,sz]
   clear hA
   refine xaA (rs:=[12]) (by kernel_rfl) (by simp) ?_
   refine xao (zB rfl) (fun K d=>?_) xau
   rw [xae (by rfl)]
   go_simp
   go_wp2_with fail
   rw [O.out.1,O.out.2]
   refine d.out _ _ (ap.out u3 HM.out.2.2.1) (fun hA=>?_)
   clear d K
   try simp only [Act.put,sz]
   clear hA O cb
   rotate_left
   obtain ⟨B,u2,O,ba⟩:=jY av.out
   rw [O.out.1,O.out.2]
   refine d.out _ _ (ap.out u2 ba.out.2.2.1) (fun hA=>?_)
   clear d K
   try simp only [Act.put,sz]
   clear hA O
   refine xaA (rs:=[8]) (by kernel_rfl) (by simp) ?_
   refine xao (zB rfl) (fun K d=>?_) xau
   rw [xae (by rfl)]
   go_simp
   refine (bp.out u2 (zA HB.out HB.out.size ba.out.2.2.1)).mono ?_
   rintro e3 u3 ⟨z,rfl,aq,⟨ar,au⟩,an⟩
   have HM:=gR ba.out aq ar au an
   clear aq ar au an ba
   go_wp2_with fail
   refine d.out _ _ (ap.out u3 HM.out.2.2.1) (fun hA=>?_)
   clear d K
   try simp only [Act.put,sz]
   refine tkv 9 (.tuple #[.agg (zF z).toArray,.bool W]) hA ?_
   simp only [Act.put,sz]
   refine tkv 10 (.agg (zF z).toArray) hA ?_
   simp only [Act.put,sz]
   refine tkv 11 (.bool W) hA ?_
   simp only [Act.put,sz]
   clear hA
   all_goals
    obtain ⟨br,j,s,HA⟩:=zCn HM.out
    refine xaA (rs:=[13]) (by kernel_rfl) (by simp) ?_
    refine xao (zB rfl) (fun K d=>?_) xau
    rw [xae (by rfl)]
    refine xbH 42 _ _ rfl B 0 (zF z).toArray rfl rfl br.out Tryz.verSize (wB z) ?_
    rw [s.out]
    refine d.out _ _ (ap.out j HA.out.2.2.1) (fun hA=>?_)
    clear d K
    try simp only [Act.put,sz]
    clear HM br s
    refine tkv 14 (.bool W) hA ?_
    simp only [Act.put,sz]
    refine tkd ?_
    clear hA
    go_wp2_with fail
    go_meet
    exact ⟨z,B,rfl,rfl,HA.out⟩
  obtain ⟨⟨yn,ys,yt,yl,yp,yc,yo⟩,B,rfl,rfl,HA⟩:=hcut
  obtain ⟨cl,cu,ci,cd,bs,A,w3,M,hj,cw,cn⟩:=HA.out
  have m:wT N (doB Q C++Z) Y h gs r.S A w3 wc:=fun Zt dd=>HV.out.pins ci Zt fun p hp=>by obtain ⟨e1,e2⟩:=dd p hp;exact ⟨zaU M e1,(cn p.1 e1 (Array.getElem?_eq_some_iff.1 e2).1).trans e2⟩
  have df:=hid (xU (cs:=zF ⟨yn,ys,yt,yl,yp,yc,yo⟩) cl).1
  obtain ⟨E,j,s,g0,g1,g2,T,g4,g5,g6,g7,g8,g9,ad,ac,ae,af⟩:=dX (ot:={ v:=⟨yn,ys,yt,yl,yp,yc,yo⟩,ok:=W }) (P:=fun j=>nU N ZU (Y+1) h R gs RR w (.returned (.agg (zU { v:=⟨yn,ys,yt,yl,yp,yc,yo⟩,ok:=W }).toArray)) j) (zAx m.sto) (fun j f=>by rw [<-aw.out];exact zAd G.out HQ.out ai.out (ot:={ v:=⟨yn,ys,yt,yl,yp,yc,yo⟩,ok:=W }) M (m.mono (xax _)) (fun _ _ e=>e) f ({ yG A w3 with ver:=⟨hj,bs⟩ }) (by unfold Ot.r;simp only;rw [cd];rfl))
  clear cl cu ci cd bs M hj cw cn m
  go_wp2_with (first|(refine yW rfl 42 _ rfl B 0 rfl (zF ⟨yn,ys,yt,yl,yp,yc,yo⟩) _ df.out underlying42 rfl Tryz.verSize (.agg #[.int .i64 yn,.int .u64 ys,.int .i64 yt,.bool yl,.slice yp yo.length yc]) rfl ?_)|(refine zJ rfl 52 _ _ rfl (Q+1) 0 (zU { v:=⟨yn,ys,yt,yl,yp,yc,yo⟩,ok:=W }).toArray rfl rfl E.out.1 Tryz.outSize E.out.2 j s.out.1 ?_))
  exact zaB (v:=.agg (zU { v:=⟨yn,ys,yt,yl,yp,yc,yo⟩,ok:=W }).toArray) (by simp [results,results9,go_sem,zU,g0,g1,g2,T,g4,g5,g6,g7,g8,g9,ad,ac,ae,af]) rfl s.out.2.1
 by_cases k19:L=19
 ·subst k19
  go_upto_region 15 with fail
  refine tkb (S:=fun a=>a.cell? ⟨R,0,none⟩=some (.pointer (some ⟨h,0,none⟩))/\a.cell? ⟨R,1,none⟩=some (.slice p l.length c)/\(a.cell? ⟨Q,2,none⟩=some (.string J)/\a.cell? ⟨Q,3,none⟩=some (.string H))/\a.cell? ⟨Q,6,none⟩=some (.int .u64 I)/\a.cell? ⟨Q,1,none⟩=some (.int .i64 F)/\a.cell? ⟨Q,7,none⟩=some (.int .i64 t)) ab fun hA=>?_
  refine tkv 0 (.pointer (some ⟨R,0,none⟩)) hA ?_
  simp only [Act.put,sz]
  refine tkv 1 (.pointer (some ⟨R,0,none⟩)) hA ?_
  simp only [Act.put,sz]
  refine tkv 2 (.pointer (some ⟨R,0,none⟩)) hA ?_
  simp only [Act.put,sz]
  refine tkv 3 (.pointer (some ⟨h,0,none⟩)) hA ?_
  simp only [Act.put,sz]
  refine tkv 5 (.pointer (some ⟨R,0,none⟩)) hA ?_
  simp only [Act.put,sz]
  refine tkv 6 (.pointer (some ⟨R,0,none⟩)) hA ?_
  simp only [Act.put,sz]
  refine tkv 7 (.pointer (some ⟨R,0,none⟩)) hA ?_
  simp only [Act.put,sz]
  refine tkv 8 (.pointer (some ⟨h,0,none⟩)) hA ?_
  simp only [Act.put,sz]
  refine tkv 10 (.pointer (some ⟨R,0,none⟩)) hA ?_
  simp only [Act.put,sz]
  refine tkv 11 (.pointer (some ⟨R,0,none⟩)) hA ?_
  simp only [Act.put,sz]
  refine tkv 12 (.pointer (some ⟨R,0,none⟩)) hA ?_
  simp only [Act.put,sz]
  refine tkv 13 (.pointer (some ⟨h,0,none⟩)) hA ?_
  simp only [Act.put,sz]
  refine tkv 15 (.pointer (some ⟨R,0,none⟩)) hA ?_
  simp only [Act.put,sz]
  refine tkv 16 (.pointer (some ⟨R,0,none⟩)) hA ?_
  simp only [Act.put,sz]
  refine tkv 17 (.pointer (some ⟨R,0,none⟩)) hA ?_
  simp only [Act.put,sz]
  refine tkv 18 (.pointer (some ⟨h,0,none⟩)) hA ?_
  simp only [Act.put,sz]
  clear hA ab a0
  refine xaA (rs:=[4]) (by kernel_rfl) (by simp) ?_
  refine xao (zB rfl) (fun K d=>?_) xau
  rw [xae (by rfl)]
  go_simp
  refine (mD (HV.out.on (zG (zaR V.heap.size V) 1))).mono ?_
  rintro e0 u0 ⟨rfl,y0⟩
  have cv:=hid y0
  have hS:=ag.out _ _ _ _ _ y0 (Fr.refl _ _)
  clear y0
  refine d.out _ _ hS (fun hA=>?_)
  clear d K
  try simp only [Act.put,sz]
  clear hA hS
  refine xaA (rs:=[9]) (by kernel_rfl) (by simp) ?_
  refine xao (zB rfl) (fun K d=>?_) xau
  rw [xae (by rfl)]
  go_simp
  refine (pG cv.out (by omega)).mono ?_
  rintro e1 u1 ⟨rfl,y1⟩
  have cx:=hid y1
  have hS:=ag.out _ _ _ _ _ y1 (Fr.refl _ _)
  clear y1
  refine d.out _ _ hS (fun hA=>?_)
  clear d K
  try simp only [Act.put,sz]
  clear hA hS
  refine xaA (rs:=[14]) (by kernel_rfl) (by simp) ?_
  refine xao (zB rfl) (fun K d=>?_) xau
  rw [xae (by rfl)]
  go_simp
  refine (zGw cx.out).mono ?_
  rintro e2 u2 ⟨rfl,y2⟩
  have db:=hid y2
  have hS:=ag.out _ _ _ _ _ y2 (Fr.refl _ _)
  clear y2
  refine d.out _ _ hS (fun hA=>?_)
  clear d K
  try simp only [Act.put,sz]
  clear hA hS
  refine xaA (rs:=[19]) (by kernel_rfl) (by simp) ?_
  refine xao (zB rfl) (fun K d=>?_) xau
  rw [xae (by rfl)]
  go_simp
  refine (zBa db.out).mono ?_
  rintro e3 u3 ⟨rfl,y3⟩
  have dn:=hid y3
  have hS:=ag.out _ _ _ _ _ y3 (Fr.refl _ _)
  obtain ⟨B,w5,O,H5⟩:=zC8 ai #[.int .i64 (zS r.S.D:Nat),.int .i64 (xD (xZ r.S):Nat),.int .i64 (r.S.tk.kept.length:Nat)] y3
  obtain ⟨ak,m,M⟩:=H5.out
  obtain ⟨E,j,s,g0,g1,g2,T,g4,g5,g6,g7,g8,g9,ad,ac,ae,af⟩:=dX (ot:={ st:=r.S.last,np:=some ⟨B,0,none⟩,nc:=3,ns:=[(zS r.S.D:Int),(xD (xZ r.S):Int),(r.S.tk.kept.length:Int)] }) (P:=fun j=>nU N ZU (Y+1) h R gs RR w (.returned (.agg (zU { st:=r.S.last,np:=some ⟨B,0,none⟩,nc:=3,ns:=[(zS r.S.D:Int),(xD (xZ r.S):Int),(r.S.tk.kept.length:Int)] }).toArray)) j) (zAx m.sto) (fun j f=>by rw [<-HR.out];exact zAd G.out HQ.out ai.out (ot:={ st:=r.S.last,np:=some ⟨B,0,none⟩,nc:=3,ns:=[(zS r.S.D:Int),(xD (xZ r.S):Int),(r.S.tk.kept.length:Int)] }) M (m.mono (xax _)) (fun _ _ e=>e) f ({ yG B w5 with num:=zLe ak (zaL _) }) rfl)
  have aj:=ag.out _ _ _ _ _ m.sto (Fr.refl _ _)
  have al:=ag.out _ _ _ _ _ m.sto s.out.2.2
  clear ak m M y3
  refine d.out _ _ hS (fun hA=>?_)
  clear d K
  try simp only [Act.put,sz]
  clear hA hS
  refine xaA (rs:=[20]) (by kernel_rfl) (by simp) ?_
  refine xao (zB rfl) (fun K d=>?_) xau
  rw [xae (by rfl)]
  go_simp
  go_wp2_with fail
  rw [O.out.1,O.out.2]
  refine d.out _ _ aj (fun hA=>?_)
  clear d K
  try simp only [Act.put,sz]
  clear aj
  refine tkv 21 (.agg #[.int .i64 0,.int .u64 0,.int .i64 0,.bool false,.slice none 0 0,.slice none 0 0,.slice none 0 0,.int .i64 0,.int .u64 r.S.last,.slice (some ⟨B,0,none⟩) 3 3,.bool false,.slice none 0 0,.slice none 0 0,.slice none 0 0]) hA ?_
  simp only [Act.put,sz]
  clear hA
  refine xaA (rs:=[22]) (by kernel_rfl) (by simp) ?_
  refine xao (zB rfl) (fun K d=>?_) xau
  rw [xae (by rfl)]
  refine xbH 52 _ _ rfl (Q+1) 0 (zU { st:=r.S.last,np:=some ⟨B,0,none⟩,nc:=3,ns:=[(zS r.S.D:Int),(xD (xZ r.S):Int),(r.S.tk.kept.length:Int)] }).toArray rfl rfl E.out.1 Tryz.outSize E.out.2 ?_
  rw [s.out.1]
  refine d.out _ _ al (fun hA=>?_)
  clear d K
  try simp only [Act.put,sz]
  refine tkd ?_
  clear hA al
  go_wp2_with fail
  exact zaB (v:=.agg (zU { st:=r.S.last,np:=some ⟨B,0,none⟩,nc:=3,ns:=[(zS r.S.D:Int),(xD (xZ r.S):Int),(r.S.tk.kept.length:Int)] }).toArray) (by simp [results,results9,go_sem,zU,g0,g1,g2,T,g4,g5,g6,g7,g8,g9,ad,ac,ae,af]) rfl s.out.2.1
 obtain ⟨BB,bn⟩:∃BB,decide (F<0∨(l.length:Int)<=F)=BB:=⟨_,rfl⟩
 have bb:=hid bn
 clear bn
 have b1:(L==1)=false:=by simpa using k1
 have dp:(L==16)=false:=by simpa using k16
 have dm:(L==17)=false:=by simpa using k17
 have dq:(L==18)=false:=by simpa using k18
 have dk:(L==19)=false:=by simpa using k19
 go_upto_region 16 with fail
 go_cut [110] from 98 to 110 (fun vb wx=>vb=.bool BB/\V.drew=wx)
 case first =>
  refine tkb (S:=fun a=>a.cell? ⟨R,0,none⟩=some (.pointer (some ⟨h,0,none⟩))/\a.cell? ⟨R,1,none⟩=some (.slice p l.length c)/\(a.cell? ⟨Q,2,none⟩=some (.string J)/\a.cell? ⟨Q,3,none⟩=some (.string H))/\a.cell? ⟨Q,6,none⟩=some (.int .u64 I)/\a.cell? ⟨Q,1,none⟩=some (.int .i64 F)/\a.cell? ⟨Q,7,none⟩=some (.int .i64 t)) ab fun hA=>?_
  by_cases h0:F<0
  ·have hd:decide (F<0)=true:=xas h0
   have hb:BB=true:=by rw [<-bb.out];exact xas (xac h0)
   subst hb
   refine tkv 0 (.pointer (some ⟨Q,1,none⟩)) hA ?_
   simp only [Act.put,sz]
   refine tkv 1 (.int .i64 F) hA ?_
   simp only [Act.put,sz]
   refine tkv 2 (.bool true) hA ?_
   simp only [Act.put,sz]
   refine tkv 3 (.bool true) hA ?_
   simp only [Act.put,sz]
   refine qM (i:=4) rfl (by kernel_rfl) (by kernel_rfl) (by kernel_rfl) (fun _ _ _ h=>h) (by rfl) hA ?_
   simp only [Act.put,sz]
   refine qM (i:=5) rfl (by kernel_rfl) (by kernel_rfl) (by kernel_rfl) (fun _ _ _ h=>h) (by rfl) hA ?_
   simp only [Act.put,sz]
   refine qM (i:=6) rfl (by kernel_rfl) (by kernel_rfl) (by kernel_rfl) (fun _ _ _ h=>h) (by rfl) hA ?_
   simp only [Act.put,sz]
   refine qM (i:=7) rfl (by kernel_rfl) (by kernel_rfl) (by kernel_rfl) (fun _ _ _ h=>h) (by rfl) hA ?_
   simp only [Act.put,sz]
   refine qM (i:=8) rfl (by kernel_rfl) (by kernel_rfl) (by kernel_rfl) (fun _ _ _ h=>h) (by rfl) hA ?_
   simp only [Act.put,sz]
   refine qM (i:=9) rfl (by kernel_rfl) (by kernel_rfl) (by kernel_rfl) (fun _ _ _ h=>h) (by rfl) hA ?_
   simp only [Act.put,sz]
   refine qM (i:=10) rfl (by kernel_rfl) (by kernel_rfl) (by kernel_rfl) (fun _ _ _ h=>h) (by rfl) hA ?_
   simp only [Act.put,sz]
   refine qM (i:=11) rfl (by kernel_rfl) (by kernel_rfl) (by kernel_rfl) (fun _ _ _ h=>h) (by rfl) hA ?_
   simp only [Act.put,sz]
   refine tkv 12 (.bool true) hA ?_
   simp only [Act.put,sz]
   refine tkd ?_
   go_wp2_with fail
   go_meet
   exact ⟨rfl,rfl⟩
  have hd:decide (F<0)=false:=xar h0
  have hb:decide ((l.length:Int)<=F)=BB:=by rw [<-bb.out];exact decide_eq_decide.2 (by omega)
  refine tkv 0 (.pointer (some ⟨Q,1,none⟩)) hA ?_
  simp only [Act.put,sz]
  refine tkv 1 (.int .i64 F) hA ?_
  simp only [Act.put,sz]
  refine tkv 2 (.bool false) hA ?_
  simp only [Act.put,sz]
  refine tkv 3 (.bool false) hA ?_
  simp only [Act.put,sz]
  refine tkv 4 (.pointer (some ⟨Q,1,none⟩)) hA ?_
  simp only [Act.put,sz]
  refine tkv 5 (.int .i64 F) hA ?_
  simp only [Act.put,sz]
  refine tkv 6 (.pointer (some ⟨R,0,none⟩)) hA ?_
  simp only [Act.put,sz]
  refine tkv 7 (.pointer (some ⟨R,0,none⟩)) hA ?_
  simp only [Act.put,sz]
  refine tkv 8 (.pointer (some ⟨R,1,none⟩)) hA ?_
  simp only [Act.put,sz]
  refine tkv 9 (.slice p l.length c) hA ?_
  simp only [Act.put,sz]
  refine tkv 10 (.int .i64 l.length) hA ?_
  simp only [Act.put,sz]
  refine tkv 11 (.bool BB) hA ?_
  simp only [Act.put,sz]
  refine tkv 12 (.bool BB) hA ?_
  simp only [Act.put,sz]
  refine tkd ?_
  go_wp2_with fail
  go_meet
  exact ⟨rfl,rfl⟩
 obtain ⟨rfl,bw⟩:=hcut
 rw [<-bw]
 clear bw ab a0
 by_cases hox:(F<0∨(l.length:Int)<=F)
 ·obtain rfl:true=BB:=by rw [<-bb.out];exact (xas hox).symm
  have be:Sto N (doB Q C++Z) Y h gs r.S V.drew:=HV.out.on (zG (zaR V.heap.size V) 1)
  have m:=wT.of_sto be
  have M:V.heap.size<=V.drew.heap.size:=(zG (zaR V.heap.size V) 1).size
  have aw:Hid (({},⟨r.S,r.ids⟩)=RR):=hid (by
   rw [<-HR.out]
   unfold qW
   simp only [k1,k16,k17,k18,k19,if_false]
   by_cases h0:F<0
   ·rw [xae h0]
   have hl:=G.out.len
   rw [xag h0,xaz (by omega)])
  obtain ⟨E,j,s,g0,g1,g2,T,g4,g5,g6,g7,g8,g9,ad,ac,ae,af⟩:=dX (ot:={}) (P:=fun j=>nU N ZU (Y+1) h R gs RR w (.returned (.agg (zU {}).toArray)) j) (zAx be) (fun j f=>by rw [<-aw.out];exact zAd G.out HQ.out ai.out (ot:={}) M (m.mono (xax _)) (fun _ _ e=>e) f (yG _ _) rfl)
  clear be m M hox
  generalize V.drew=W1 at *
  go_wp2_with (refine zJ rfl 52 _ _ rfl (Q+1) 0 (zU {}).toArray rfl rfl E.out.1 Tryz.outSize E.out.2 j s.out.1 ?_)
  exact zaB (v:=.agg (zU {}).toArray) (by simp [results,results9,go_sem,zU,g0,g1,g2,T,g4,g5,g6,g7,g8,g9,ad,ac,ae,af]) rfl s.out.2.1
 obtain rfl:false=BB:=by rw [<-bb.out];exact (xar hox).symm
 obtain ⟨U,rfl⟩:∃U:Nat,F=(U:Int):=⟨F.toNat,by omega⟩
 have da:U<l.length:=by omega
 obtain ⟨gg,b7,o7,ii,tx,cy,co,bz,cf,bu⟩:=G.out.pick da ⟨L,U,(J,H),vo.map Fx.fld,pt,I,t⟩ rfl ⟨k1,k16,k17,k18,k19⟩
 subst cy
 obtain ⟨CS,bj⟩:∃CS,mF r.S ii tx ⟨L,U,(J,H),vo.map Fx.fld,pt,I,t⟩=CS:=⟨_,rfl⟩
 have aw:Hid ((CS.1,⟨CS.2,r.ids⟩)=RR):=hid (by rw [<-HR.out,<-bj,bu])
 have ct:Hid (∀n,CC 11 #[.pointer (some ⟨gg,0,none⟩),.agg #[.int .i64 L,.int .i64 U,.string J,.string H,.slice vp vo.length vc,.slice pp pt.length pc,.int .u64 I,.int .i64 t]] (V.drewN n) fun e a=>zJX N (doB Q C++Z) (Y+1) h gs CS (V.drewN n) e a):=hid fun n=>by rw [<-bj];exact zBc (HV.out.on (zG (zaR V.heap.size V) n)) hn bz cf ⟨L,U,J,H,vp,vc,vo,pp,pc,pt,I,t⟩ (HO.out.on (zG (zaR V.heap.size V) n))
 have dj:=hid co
 have HK:Hid (∀(u a:World) (nr':Nat) (gs':List Nat) (S':Sv),Sto N (doB Q C++Z) nr' h gs' S' u->Fr (fun b=>b=Q+1) u a->(a.cell? ⟨R,1,none⟩=some (.slice (some ⟨b7,o7,none⟩) l.length c)/\a.cell? ⟨b7,o7+U,none⟩=some (.pointer (some ⟨gg,0,none⟩))/\a.cell? ⟨Q,0,none⟩=some (.int .i64 L)/\a.cell? ⟨Q,1,none⟩=some (.int .i64 U)/\a.cell? ⟨Q,2,none⟩=some (.string J)/\a.cell? ⟨Q,3,none⟩=some (.string H)/\a.cell? ⟨Q,4,none⟩=some (.slice vp vo.length vc)/\a.cell? ⟨Q,5,none⟩=some (.slice pp pt.length pc)/\a.cell? ⟨Q,6,none⟩=some (.int .u64 I)/\a.cell? ⟨Q,7,none⟩=some (.int .i64 t))):=hid fun u a _ _ _ y f=>by
  obtain ⟨_,h1,_⟩:=ag.out _ _ _ _ _ y f
  have eQ:=y.got (k:=Q) (b:=.cells C 40 (0,0)) (by unfold doB;simp)
  obtain ⟨b,hb⟩:=(G.out.own b7 rfl).2.1
  have e7:=y.got (zaG (xaf hb))
  have h7:=G.out.olt (k:=b7) rfl
  have:=HQ.out
  have q:a.heap[Q]? = some (.cells #[.int .i64 L,.int .i64 U,.string J,.string H,.slice vp vo.length vc,.slice pp pt.length pc,.int .u64 I,.int .i64 t] 40 (0,0)):=by rw [f.block _ (Array.getElem?_eq_some_iff.1 eQ).1 (by omega),eQ,<-HC.out]
  refine ⟨h1,(xap (((f.block _ (Array.getElem?_eq_some_iff.1 e7).1 (by omega)).trans e7).trans (G.out.sto.got hb).symm)).trans dj.out,?_,?_,?_,?_,?_,?_,?_,?_⟩<;>(rw [zaC q];rfl)
 have ab:=HK.out V.drew _ _ _ _ (HV.out.on (zG (zaR V.heap.size V) 1)) (Fr.refl _ _)
 clear co bz cf bu bj hox k1 k16 k17 k18 k19
 go_upto_region 18 with fail
 refine tkb (S:=fun a=>a.cell? ⟨R,1,none⟩=some (.slice (some ⟨b7,o7,none⟩) l.length c)/\a.cell? ⟨b7,o7+U,none⟩=some (.pointer (some ⟨gg,0,none⟩))/\a.cell? ⟨Q,0,none⟩=some (.int .i64 L)/\a.cell? ⟨Q,1,none⟩=some (.int .i64 U)/\a.cell? ⟨Q,2,none⟩=some (.string J)/\a.cell? ⟨Q,3,none⟩=some (.string H)/\a.cell? ⟨Q,4,none⟩=some (.slice vp vo.length vc)/\a.cell? ⟨Q,5,none⟩=some (.slice pp pt.length pc)/\a.cell? ⟨Q,6,none⟩=some (.int .u64 I)/\a.cell? ⟨Q,7,none⟩=some (.int .i64 t)) ab fun hA=>?_
 refine tkv 0 (.pointer (some ⟨R,0,none⟩)) hA ?_
 simp only [Act.put,sz]
 refine tkv 1 (.pointer (some ⟨R,0,none⟩)) hA ?_
 simp only [Act.put,sz]
 refine tkv 2 (.pointer (some ⟨R,1,none⟩)) hA ?_
 simp only [Act.put,sz]
 refine tkv 3 (.slice (some ⟨b7,o7,none⟩) l.length c) hA ?_
 simp only [Act.put,sz]
 refine tkv 4 (.pointer (some ⟨Q,1,none⟩)) hA ?_
 simp only [Act.put,sz]
 refine tkv 5 (.int .i64 U) hA ?_
 simp only [Act.put,sz]
 refine tkv 6 (.pointer (some ⟨b7,o7+U,none⟩)) hA ?_
 simp only [Act.put,sz]
 refine tkv 7 (.pointer (some ⟨gg,0,none⟩)) hA ?_
 simp only [Act.put,sz]
 refine tkv 8 (.agg #[.int .i64 L,.int .i64 U,.string J,.string H,.slice vp vo.length vc,.slice pp pt.length pc,.int .u64 I,.int .i64 t]) hA ?_
 simp only [Act.put,sz]
 clear hA ab
 refine xaA (rs:=[9]) (by kernel_rfl) (by simp) ?_
 refine xao (zB rfl) (fun K d=>?_) xau
 rw [xae (by rfl)]
 go_simp
 refine (ct.out 2).mono ?_
 rintro e5 w5 ⟨ot,A,w1,rfl,ce,hr,cm,m⟩
 have M:V.heap.size<=A:=zaU (zG (zaR V.heap.size V) 2).size cm
 obtain ⟨E,j,s,g0,g1,g2,T,g4,g5,g6,g7,g8,g9,ad,ac,ae,af⟩:=dX (ot:=ot) (P:=fun j=>nU N ZU (Y+1) h R gs RR w (.returned (.agg (zU ot).toArray)) j) (zAx m.sto) (fun j f=>by rw [<-aw.out];exact zAd G.out HQ.out ai.out (ot:=ot) M m (fun _ _ e=>e) f (ce) hr)
 have aj:=HK.out _ _ _ _ _ m.sto (Fr.refl _ _)
 have al:=HK.out _ _ _ _ _ m.sto s.out.2.2
 clear m ce hr cm M
 go_wp2_with fail
 refine d.out _ _ aj (fun hA=>?_)
 clear d K
 try simp only [Act.put,sz]
 clear hA aj
 refine xaA (rs:=[10]) (by kernel_rfl) (by simp) ?_
 refine xao (zB rfl) (fun K d=>?_) xau
 rw [xae (by rfl)]
 refine xbH 52 _ _ rfl (Q+1) 0 (zU ot).toArray rfl rfl E.out.1 Tryz.outSize E.out.2 ?_
 rw [s.out.1]
 refine d.out _ _ al (fun hA=>?_)
 clear d K
 try simp only [Act.put,sz]
 refine tkd ?_
 clear hA al
 go_wp2_with fail
 exact zaB (v:=.agg (zU ot).toArray) (by simp [results,results9,go_sem,zU,g0,g1,g2,T,g4,g5,g6,g7,g8,g9,ad,ac,ae,af]) rfl s.out.2.1
section
variable {W0 w:World} {nr h i:Nat} {Z:List (Nat × Obj)} {gs:List Nat} {S:Sv}
theorem zK4 (x:Sto W0 Z nr h gs S w):∃R V,Hid (w.heap.size=R/\w.alloc (.cells #[.pointer (some ⟨h,0,none⟩),.slice none 0 0] 34)=V)/\Hid (nP W0 Z nr h R gs ⟨S,[]⟩ V):=by
 have b:Bw w (w.alloc (.cells #[jp h,sc none 0 0] 34)):=zaQ;have d:=xab w (.cells #[jp h,sc none 0 0] 34);have y:=x.pins b [(w.z,.cells #[jp h,sc none 0 0] 34 (0,0))] fun p a=>by grind
 refine ⟨_,_,hid ⟨rfl,rfl⟩,hid ⟨_,sc none 0 0,[],y,fun p a=>zaG (xaf a),zaG (xac (List.mem_singleton.2 rfl)),yP.nil KTx y.bel y.bel.size,rfl,(fun j i hj=>by simp at hj),(fun k c=>by cases c),(fun p a=>?_),x.bel.size⟩⟩;have:=x.low a;omega
theorem zNZ (w:World) (o:Ov):∃B V W4,Hid (w.heap.size=B/\w.alloc (.cells #[.int .i64 0,.int .i64 0,.string ⟨#[]⟩,.string ⟨#[]⟩,.slice none 0 0,.slice none 0 0,.int .u64 0,.int .i64 0] 40)=V)/\Hid (V.there B 0 (xN o).toArray.size)/\Hid (V.setCells B 0 (xN o).toArray.toList=W4)/\Hid (W4.rangeAt B 0 (xN o)/\Below w.heap.size w W4/\Below w.heap.size w V):=by
 have a:Bw w (w.alloc (.cells #[ii 0,ii 0,tq ⟨#[]⟩,tq ⟨#[]⟩,sc none 0 0,sc none 0 0,iu 0,ii 0] 40)):=zaQ;have b:=xab w (.cells #[ii 0,ii 0,tq ⟨#[]⟩,tq ⟨#[]⟩,sc none 0 0,sc none 0 0,iu 0,ii 0] 40);have e:(xN o).length=(#[ii 0,ii 0,tq ⟨#[]⟩,tq ⟨#[]⟩,sc none 0 0,sc none 0 0,iu 0,ii 0]:Array Value).size:=by rfl
 obtain ⟨d,c⟩:=vZ b e rfl;exact ⟨_,_,_,hid ⟨rfl,rfl⟩,hid (xU (cs:=[ii 0,ii 0,tq ⟨#[]⟩,tq ⟨#[]⟩,sc none 0 0,sc none 0 0,iu 0,ii 0]) b).2,hid rfl,hid ⟨(xU d).1,a.trans (c.below a.size fun k f=>by omega),a⟩⟩
theorem zEu (o:Ov):(xN o).toArray.all (·.oneCell')=true:=xbF (KOv.one o)
theorem Tryz.opSize:(prog.info? 40).map (·.size)=some 8:=by kernel_rfl
theorem zJs {p:Option Addr} {c:Nat} {l:List Ov} (h:KOv.Is w (.slice p l.length c) l) {i:Nat} (hi:i<l.length):∃b a,p=some ⟨b,a,none⟩/\w.rangeAt b (a+i * 8) (xN l[i]):=by
 obtain ⟨k,m,f,h⟩:=h;injection f with e1 _ _
 subst e1
 rcases h with h|⟨b,a,d,g⟩
 ·grind
 exact ⟨b,a,d,fun j v e=>g i hi j v e⟩
theorem Sto.few (x:Sto W0 Z nr h gs S w) {i g:Nat} {t:Tx} (d:gs[i]? = some g) (b:S.txs[i]? = some t):(zC S.D t).length<=nr:=by
 obtain ⟨⟨c,⟨s,p,f,rfl,rfl,rfl⟩,r,m⟩,j⟩:=x;obtain ⟨y,hy,rfl,rfl⟩:=sH d b;have k:=f.room
 have e:∀(l:List Nat) (n:Nat),n∈l->n<=l.sum:=fun l=>by
  induction l with
  | nil=>grind
  | cons a l ih=>grind
 have q:=e (s.xs.map Px.load) y.load (List.mem_map.2 ⟨y,List.mem_of_getElem? hy,rfl⟩)
 have o:(zC s.sv.D y.tx).length=y.load:=by
  unfold zC Px.load;show (if y.ended=true then [] else _).length=_
  split
  ·rfl
  rw [zaM];rfl
 omega
end
section
variable {W0 w w' w4:World} {Z:List (Nat × Obj)} {nr h n A:Nat} {gs:List Nat} {r:Rn} {v:Value} {S' S:Sv} {t:Tx}
theorem qZ.turn {c:List (Nat × Obj)} {b R:Nat} {a:List Nat} {l:List Nat} (x:qZ W0 c nr h R gs r Z v l w) (s:Sto W0 Z b h a S' w') (m:∀i g:Nat,gs[i]? = some g->a[i]? = some g):nP W0 c b h R a ⟨S',r.ids⟩ w':=⟨Z,v,l,s,x.sub,x.box,zCw x.row x.sto s (fun k e=>(x.own k e).2.1),x.len,fun j i hj=>by obtain ⟨g,d,f⟩:=x.ids j i hj;exact ⟨g,d,m i g f⟩,x.own,x.off,x.base⟩
theorem zN2 (S:Sv) (i:Nat) (t:Tx) {o:O15} (a:o.kind=4∨o.kind=5):∃t',(mF S i t o).2=zZ S i t'/\t'.ended=t.ended:=by
 rcases a with e|e
 ·refine ⟨(xX t o.key o.val).2,by unfold mF;simp [e],?_⟩;unfold xX
  split<;>rfl
 refine ⟨(vU S.D t o.key).2,by unfold mF;simp [e],?_⟩
 grind [vU,qY]
structure WiR (t:Tx) (n:Nat) (r:Rn):Prop where
 tx:r.S.txs[0]? = some t
 no:0 ∉ r.ids
 ids:∀j∈r.ids,j<r.S.txs.length
 few:r.ids.length<=n
theorem WiR.step (h:WiR t n r) (o:O15):WiR t (n+1) (qW r o).2:=by
 have a:=(gL h.tx).1;refine ⟨((zKV h.no o).tx a).trans h.tx,?_,zOQ h.ids o,?_⟩
 ·have:=h.no
  grind [qW]
 have:=h.few
 grind [qW]
theorem WiR.put {a:Tx} (h:WiR t n r) {S':Sv} (e:S'=zZ r.S 0 a):WiR a n ⟨S',r.ids⟩:=by
 subst e;have b:=(gL h.tx).1;exact ⟨List.getElem?_set_self b,h.no,fun j hj=>by have:=h.ids j hj;show j<(r.S.txs.set 0 a).length;rw [xaW];exact this,h.few⟩
def zH2 (w1:World) (nr h R g:Nat) (t:Tx) (n:Nat) (w:World):Prop:=∃gs r,nP w1 [] nr h R gs r w/\gs[0]? = some g/\WiR t n r
def zB5 (A:Nat) (w4:World):List (Nat × Obj):=(List.range w4.heap.size).filterMap fun k=>if A<=k then (w4.heap[k]?).map (fun b=>(k,b)) else none
theorem zE1 {p:Nat × Obj}:p∈zB5 A w4↔A<=p.1/\w4.heap[p.1]? = some p.2:=by
 unfold zB5;rw [List.mem_filterMap];constructor
 ·rintro ⟨k,_,e⟩
  split at e
  ·next c =>
   rw [Option.map_eq_some_iff] at e;obtain ⟨b,a,rfl⟩:=e;exact ⟨c,a⟩
  cases e
 rintro ⟨c,a⟩;exact ⟨p.1,List.mem_range.2 (gA a).1,by rw [xae c,a];rfl⟩
theorem zPv {c w4 w':World} {A nr h:Nat} {gs:List Nat} {S:Sv} (b:Below c.heap.size c w4) (x:Sto c (zB5 A w4) nr h gs S w') (f:A<w4.heap.size):Fr (fun k=>¬ (A<=k/\k<w4.heap.size)) w4 w':=by
 have e:∀k,A<=k->k<w4.heap.size->w'.heap[k]? = w4.heap[k]?:=fun k d a=>(x.got (zE1.2 ⟨d,xb8 a⟩)).trans (xb8 a).symm
 have hb':=x.bel;refine ⟨hb'.os.trans b.os.symm,hb'.tape.trans b.tape.symm,hb'.output.trans b.output.symm,?_,fun k d a=>?_⟩
 ·have:=e (w4.heap.size-1) (by omega) (by omega);rw [xb8 (show w4.heap.size-1<w4.heap.size by omega)] at this;have:=(gA this).1;omega
 have:=Classical.not_not.1 a;exact e k this.1 this.2
theorem zG0 (x:Sto W0 Z nr h gs S w) (k:Ky) (a:yE k) (t:Int):CC 22 #[.pointer (some ⟨h,0,none⟩),.agg #[.string k.1,.string k.2],.int .u64 t] w fun e w'=>vW w (atV (ofD S.D k) t) e w':=by
 obtain ⟨⟨c,⟨s,p,f,rfl,rfl,rfl⟩,g,d⟩,b⟩:=x;exact jA p.stat p.dirS k a t
theorem Sto.cnt (x:Sto W0 Z nr h gs S w):zS S.D<=4096:=by
 obtain ⟨⟨c,⟨s,p,f,rfl,rfl,rfl⟩,i,e⟩,d⟩:=x;have a:=f.ok.cnt;have b:=f.v4;have g:((zS s.sv.D:Nat):Int)<=4096:=Int.le_trans a b;omega
theorem zF2 (w:World) (T:TypeId) (zs ds:List Value) (c:ds.length=zs.length):∃B V W4,Hid (w.heap.size=B/\w.alloc (.cells zs.toArray T)=V)/\Hid (V.there B 0 ds.toArray.size)/\Hid (V.setCells B 0 ds.toArray.toList=W4)/\Hid (W4.heap[B]? = some (.cells ds.toArray T (0,0))/\Below w.heap.size w W4/\Below w.heap.size w V):=by
 have a:Bw w (w.alloc (.cells zs.toArray T)):=zaQ;have b:=xab w (.cells zs.toArray T);obtain ⟨e,d⟩:=vZ b (show ds.length=zs.toArray.size by simpa using c) rfl;refine ⟨_,_,_,hid ⟨rfl,rfl⟩,hid ?_,hid rfl,hid ⟨e,a.trans (d.below a.size fun k f=>by omega),a⟩⟩;have:=(xU (cs:=zs) b).2
 rwa [show zs.length=ds.toArray.size by simpa using c.symm] at this
theorem zQU {p:Option Addr} {c:Nat} {l:List Cx} (h:KCx.Is w (.slice p l.length c) l) {i:Nat} (hi:i<l.length):∃b a,p=some ⟨b,a,none⟩/\w.rangeAt b (a+i * 6) (xB l[i]):=by
 obtain ⟨k,m,f,h⟩:=h;injection f with e1 _ _
 subst e1
 rcases h with h|⟨b,a,d,g⟩
 ·grind
 exact ⟨b,a,d,fun j v e=>g i hi j v e⟩
theorem zOr (x:Cx):(xB x).toArray.all (·.oneCell')=true:=xbF (KCx.one x)
theorem zO6 (x:Vx):(zF x).toArray.all (·.oneCell')=true:=xbF (KV.one x)
theorem Tryz.chgSize:(prog.info? 67).map (·.size)=some 6:=by kernel_rfl
theorem zQQ {D:List zR} {fl last:Int} (h:OkX D fl last t) {c:Ch} (a:c∈zC D t):yE c.key:=by
 unfold zC at a
 split at a
 ·cases a
 obtain ⟨y,b,rfl⟩:=List.mem_map.1 a;exact key_fit (h.wr.key y b)
theorem Sto.num (x:Sto W0 Z nr h gs S w) (k:Ky) (t:Int):0<=((atV (ofD S.D k) t).getD zeroV).num/\((atV (ofD S.D k) t).getD zeroV).num<=nr:=by
 obtain ⟨⟨c,⟨s,p,f,rfl,rfl,rfl⟩,g,d⟩,a⟩:=x;have b:=zJo p.dirS k t;have i:=f.room;have e:s.sv.D=s.D:=rfl;rw [e];omega
theorem zP2 {α:Type} {K:zD α} {N:Nat} {l:List α} (h:K.Own N w v l) (d:l.length≠0):N<w.heap.size:=by
 rcases h.2 with ⟨_,a⟩|⟨g,c,f,_,e,b,_⟩
 ·exact absurd a d
 have:=(gA b).1;omega
theorem zOE {b:World} (g:Below b.heap.size b w4) (x:Sto b (zB5 A w4) nr h gs S w') {v:Value} {cs:List Cx} (e:KCx.Own A w4 v cs) (d:∀z∈cs,wY A w4 z) (i:cs.length≠0):KCx.Is w' v cs/\∀z∈cs,wC w' (.slice z.ip z.io.length z.ic) z.io/\yV z.io:=by
 have f:=zPv g x (zP2 e i);exact ⟨zD.own_is (f.row (show w4.ownsRow A KCx.T KCx.k v cs.length (KCx.cells cs) from e) fun k a q=>q (zaW (show w4.ownsRow A KCx.T KCx.k v cs.length (KCx.cells cs) from e) k a)),fun z c=>⟨((d z c).fr f fun k a q=>q ((d z c).blk k a)).inn.is,(d z c).ifit⟩⟩
end
theorem zHY (w:World) (gv:Bool) (po:Option Addr) (co:Nat) (os:List Ov) (ho:KOv.Is w (.slice po os.length co) os) (bu:∀x∈os,zBh w x) (en:os.length<=1048576) (pm:Option Addr) (cm:Nat) (d:List Ov) (hm:KOv.Is w (.slice pm d.length cm) d) (br:∀x∈d,zBh w x) (ej:d.length<=1048576):CC 4 #[.slice po os.length co,.slice pm d.length cm,.bool gv] w fun e f=>e=.returned (.bool true)/\Below w.heap.size w f:=by
 have bc:Hid (∀f,Bw w f->KOv.Is f (sc po os.length co) os/\(∀x∈os,zBh f x)/\KOv.Is f (sc pm d.length cm) d/\∀x∈d,zBh f x):=hid fun f hW=>⟨zD.is_kept ho hW,fun x c=>(bu x c).on hW,zD.is_kept hm hW,fun x c=>(br x c).on hW⟩
 clear ho bu hm br;go_enter func4,ntmps4;go_wp2_with fail;refine (zG9 w).mono ?_;rintro e s ⟨rfl,cv⟩;have dg:=hid cv;clear cv;have bz:=hid (zJn s 4096 8 1 0 (by decide) (by decide) (by decide));go_wp2_with fail;refine bz.o.mono ?_;rintro e w2 ⟨h,rfl,hx2⟩;obtain ⟨R,W3,K,HR0⟩:=zK4 hx2;clear hx2 bz;have ab:Hid (∀f,Bw s f->Bw w f):=hid fun f q=>zA dg.o dg.o.size q
 go_upto_region 5 with fail
 rw [K.o.1,K.o.2];obtain ⟨Z3,v3,l3,bp⟩:=HR0.o;have cc:=hid (gP bp.sto (by omega));have ag:=hid bp;clear bp HR0;go_wp2_with fail;refine cc.o.mono ?_;rintro e w4 ⟨g,rfl,hx4⟩;have bv:Hid (∃t:Tx,t.ended=false/\zH2 s 1 h R g t 0 w4):=hid ⟨nT (zGb 4096 8 0).last,rfl,[g],⟨xV (zGb 4096 8 0),[]⟩,ag.o.turn hx4 (fun i q e=>by cases e),rfl,rfl,(fun q=>by cases q),(fun j q=>by cases q),zaL _⟩;clear hx4 cc ag;go_wp2_with fail
 go_loopg [42] d.length (fun gg vi wr=>∃i:Nat,vi=ii i/\i<=d.length/\d.length-i<=gg/\Hid (∃t:Tx,t.ended=false/\zH2 s (1+i) h R g t 0 wr))
 case atStart=>exact ⟨0,rfl,by omega,by omega,bv.o⟩
 clear bv;obtain ⟨i,rfl,hi,az,J⟩:=hrel;obtain ⟨t,hte,gs,r,c,hg,hwi⟩:=J.o;have G:=hid c;have k:=hid hg;have I:=hid hwi;have aj:=hid hte;clear J c hg hwi hte
 by_cases hlt:i<d.length
 ·have X:(i:Int)<(d.length:Int):=by omega
  have df:(0:Int)<=i:=by omega
  obtain ⟨b7,o7,rfl,U⟩:=zJs (bc.o wr (ab.o wr G.o.bel)).2.2.1 hlt;have ah:=(bc.o wr (ab.o wr G.o.bel)).2.2.2 _ (zaN hlt)
  generalize d[i]=o at *
  have ai:=hid U;obtain ⟨B,V1,H,K,O,N,F⟩:=zNZ wr o;have aw:=hid F.o.1;have bm:=hid (ah.on F.o.2.1);have bs:=hid (G.o.on F.o.2.1);clear U ah G;have y0:H.cell? (aa B 0)=some (ii o.kind):=by have:=aw.o 0 _ rfl;simpa using this
  go_upto_region 9 with (first|(refine yW rfl 40 _ rfl b7 (o7+i * 8) rfl (xN o) _ ai.o underlying40 rfl Tryz.opSize (.agg (xN o).toArray) rfl ?_)|(refine zJ rfl 40 _ _ rfl B 0 (xN o).toArray rfl rfl O.o Tryz.opSize (zEu o) H N.o ?_)|(rw [K.o.1,K.o.2];refine zJ rfl 40 _ _ rfl B 0 (xN o).toArray rfl rfl O.o Tryz.opSize (zEu o) H N.o ?_))
  by_cases hk:o.kind=4∨o.kind=5
  ·obtain ⟨Z,v,l,ae⟩:=bs.o;have ay:=hid (zBc ae.sto (by omega) k.o I.o.tx o bm.o);obtain ⟨t',hc,hte'⟩:=zN2 r.S 0 t (o:=o.op) hk;have ct:=hid ae;have HC:=hid hc;have cp:Hid (t'.ended=false):=hid (hte'.trans aj.o);clear ae hc hte'
   rcases hk with hk|hk
   ·have V:(o.kind==4)=true:=by simpa using hk
    go_wp2_with (refine yW rfl 40 _ rfl B 0 rfl (xN o) _ aw.o underlying40 rfl Tryz.opSize (.agg (xN o).toArray) rfl ?_)
    refine ay.o.mono ?_;rintro e w5 ⟨ot,A,w6,rfl,_,_,_,M⟩;have y:Hid (∃t:Tx,t.ended=false/\zH2 s (1+(i+1)) h R g t 0 w5):=hid ⟨t',cp.o,gs,_,ct.o.turn M.sto (fun _ _ q=>q),k.o,I.o.put HC.o⟩;clear M ay;go_wp2_with fail;go_roundg (d.length-(i+1))
    case measure=>omega
    exact ⟨i+1,by go_num,by omega,by omega,y.o⟩
   have V:(o.kind==4)=false:=by rw [hk];rfl
   have e5:(o.kind==5)=true:=by simpa using hk
   go_wp2_with (refine yW rfl 40 _ rfl B 0 rfl (xN o) _ aw.o underlying40 rfl Tryz.opSize (.agg (xN o).toArray) rfl ?_)
   refine ay.o.mono ?_;rintro e w5 ⟨ot,A,w6,rfl,_,_,_,M⟩;have y:Hid (∃t:Tx,t.ended=false/\zH2 s (1+(i+1)) h R g t 0 w5):=hid ⟨t',cp.o,gs,_,ct.o.turn M.sto (fun _ _ q=>q),k.o,I.o.put HC.o⟩;clear M ay;go_wp2_with fail;go_roundg (d.length-(i+1))
   case measure=>omega
   exact ⟨i+1,by go_num,by omega,by omega,y.o⟩
  have V:(o.kind==4)=false:=by grind
  have e5:(o.kind==5)=false:=by grind
  have y:Hid (∃t:Tx,t.ended=false/\zH2 s (1+(i+1)) h R g t 0 H):=hid ⟨t,aj.o,gs,r,nP.mono bs.o (by omega),k.o,I.o⟩;go_wp2_with fail;go_roundg (d.length-(i+1))
  case measure=>omega
  exact ⟨i+1,by go_num,by omega,by omega,y.o⟩
 have X:¬ (i:Int)<(d.length:Int):=by omega
 obtain rfl:i=d.length:=by omega
 have cn:Hid (zH2 s (1+d.length) h R g t 0 wr):=hid ⟨gs,r,G.o,k.o,I.o⟩;clear G k I hi az hlt;go_wp2_with fail;clear X
 go_loopg [60] os.length (fun gg vi wr=>∃i:Nat,vi=ii i/\i<=os.length/\os.length-i<=gg/\Hid (zH2 s (1+d.length+i) h R g t i wr))
 case atStart=>exact ⟨0,rfl,by omega,by omega,cn.o⟩
 clear cn;obtain ⟨i,rfl,hi,az,J⟩:=hrel;obtain ⟨gs,r,c,hg,hwi⟩:=J.o;have G:=hid c;have k:=hid hg;have I:=hid hwi;clear J c hg hwi
 by_cases hlt:i<os.length
 ·have X:(i:Int)<(os.length:Int):=by omega
  have df:(0:Int)<=i:=by omega
  obtain ⟨b7,o7,rfl,U⟩:=zJs (bc.o wr (ab.o wr G.o.bel)).1 hlt;have ah:=(bc.o wr (ab.o wr G.o.bel)).2.1 _ (zaN hlt)
  generalize os[i]=o at *
  have ai:=hid U;obtain ⟨B,V1,H,K,O,N,F⟩:=zNZ wr o;have aw:=hid F.o.1;have bm:=hid (ah.on F.o.2.1);have dq:=I.o.few;have cw:=hid (zMj (G.o.on F.o.2.1) (by omega) (by omega) o bm.o);clear U ah G dq;go_wp2_with (first|(refine yW rfl 40 _ rfl b7 (o7+i * 8) rfl (xN o) _ ai.o underlying40 rfl Tryz.opSize (.agg (xN o).toArray) rfl ?_)|(refine yW rfl 40 _ rfl B 0 rfl (xN o) _ aw.o underlying40 rfl Tryz.opSize (.agg (xN o).toArray) rfl ?_)|(refine zJ rfl 40 _ _ rfl B 0 (xN o).toArray rfl rfl O.o Tryz.opSize (zEu o) H N.o ?_)|(rw [K.o.1,K.o.2];refine zJ rfl 40 _ _ rfl B 0 (xN o).toArray rfl rfl O.o Tryz.opSize (zEu o) H N.o ?_));refine cw.o.mono ?_;rintro e w5 ⟨ot,A,w6,gs',rfl,_,_,_,hgs,hZ⟩;have y:Hid (zH2 s (1+d.length+(i+1)) h R g t (i+1) w5):=hid ⟨gs',_,hZ [] (fun p hp=>by cases hp),hgs 0 g k.o,I.o.step o.op⟩;clear hZ cw hgs;go_wp2_with fail;go_roundg (os.length-(i+1))
  case measure=>omega
  exact ⟨i+1,by go_num,by omega,by omega,y.o⟩
 have X:¬ (i:Int)<(os.length:Int):=by omega
 obtain rfl:i=os.length:=by omega
 obtain ⟨Z,v,l,ae⟩:=G.o;have ci:Sto s [] (1+d.length+os.length) h gs r.S wr:=ae.sto.sub fun q hq=>by cases hq
 have ck:=hid ci;obtain ⟨S,em⟩:=r;have Q:Hid (S.txs[0]? = some t):=hid I.o.tx;have ce:Hid (Sto s [] (1+d.length+os.length) h gs S wr):=ck;clear G ae ci ck I hi az hlt;have bn:=hid (bK ce.o (by omega) k.o Q.o);obtain ⟨A,hA⟩:=eE wr.heap.size;rw [hA] at bn;clear ce;go_wp2_with fail;refine bn.o.mono ?_;rintro e u1 ⟨⟨p4,c4,cs,rfl,hco,hce,_,hch,_⟩,M⟩;rw [hA] at hco hce;have ed:Hid (Bw s u1):=hid M.sto.bel;have ag:Hid (Sto s (zB5 A u1) (1+d.length+os.length) h gs S u1):=hid (by have:=M (zB5 A u1) fun p hp=>zE1.1 hp;rwa [xbL] at this);have bl:=hid hco;have bq:Hid (∀x∈cs,wY A u1 x):=hid fun x c=>(hce x c).1
 have am:=hid hch;clear hco hce hch M bn hA;have C:=hid (mD ag.o);clear ag;go_wp2_with fail;refine C.o.mono ?_;rintro e u2 ⟨rfl,c⟩;have E:=hid (pG c (by omega));clear c C;go_wp2_with fail;refine E.o.mono ?_;rintro e u3 ⟨rfl,c⟩;have y:=hid c;clear c E;go_upto_region 18 with fail
 cases gv with
 | true =>
  obtain ⟨ap,al,au,t1,cg,cu⟩:=zJ5 Q.o;have bi:=hid (zD0 y.o (by omega) k.o Q.o);rw [ap,aj.o] at bi
  generalize (tV S 0 t).2=S1 at *
  have dd:=hid cg;have ee:=hid cu;have ef:=hid al;have dz:=hid au;clear ap al au cg cu y bl bq am;go_wp2_with fail;refine bi.o.mono ?_;rintro e u4 ⟨rfl,c⟩;obtain ⟨ap,al,au,t2,ht2,he2⟩:=zJ5 dd.o;have bo:=hid (zD0 c (by omega) k.o dd.o);rw [ap,ee.o] at bo
  generalize (tV S1 0 t1).2=S2 at *
  have cl:=hid ht2;have cf:=hid he2;have dt:=hid (al.trans ef.o);have ec:=hid (au.trans dz.o);clear ap al au ht2 he2 c bi;go_wp2_with fail;refine bo.o.mono ?_;rintro e u5 ⟨rfl,c⟩;have C:=hid (mD c);rw [dt.o] at C;clear c bo;go_wp2_with fail;refine C.o.mono ?_;rintro e u6 ⟨rfl,c⟩;have E:=hid (pG c (by omega));rw [ec.o] at E;clear c C;go_wp2_with fail;refine E.o.mono ?_;rintro e u7 ⟨rfl,c⟩;have L:=hid (pM c (by omega) k.o cl.o);rw [zGs S2 0 cf.o] at L;clear c E;go_wp2_with fail;refine L.o.mono ?_;rintro e u8 ⟨rfl,c⟩;have an:=hid (gO c k.o cl.o);rw [cf.o] at an;have av:=hid (ab.o _ c.bel);clear c L;go_wp2_with fail;refine an.o.mono ?_;rintro e u9 ⟨rfl,rfl⟩;go_wp2_with fail;go_ret;exact ⟨rfl,av.o⟩
 | false =>
 have L:=hid (pM y.o (by omega) k.o Q.o);have af:=hid y.o.okS;have ac:Hid (cs.length=(zC S.D t).length):=hid (by rw [<-am.o,zaM]);have eh:(cs.length:Nat)<=2097153:=by have:=y.o.few k.o Q.o;have:=ac.o;omega
 have ek:zS S.D<=4096:=y.o.cnt
 by_cases hno:(zP S 0 t).1.2≠0∨zC S.D t=[]
 ·obtain ⟨q1,q2,T,t5,q4,q5⟩:=zMb Q.o aj.o hno
  have W:(zP S 0 t).1.2≠0∨((zP S 0 t).1.2=0/\cs.length=0):=by
   rcases hno with e|e
   ·exact xac e
   by_cases e0:(zP S 0 t).1.2=0
   ·exact xaf ⟨e0,by rw [ac.o,e];rfl⟩
   exact xac e0
  generalize zP S 0 t=CM at *
  obtain ⟨⟨st,cd⟩,S5⟩:=CM;simp only at q1 q2 T q4 W L;subst q1;have ar:=hid q2;have bg:=hid T;have dm:=hid q4;have ea:=hid q5;clear q2 T q4 q5 hno y bl bq am af ac;go_wp2_with fail;refine L.o.mono ?_;rintro e u4 ⟨rfl,c⟩;have ao:=hid c;clear c L
  have aq:(cd != 0)=true∨((cd != 0)=false/\(((cs.length:Nat):Int)==0)=true):=by
   rcases W with e|⟨e,P⟩
   ·exact xac (by simpa using e)
   exact xaf ⟨by rw [e];rfl,by rw [P];rfl⟩
  have C:=hid (mD ao.o);rw [ar.o] at C;clear W
  rcases aq with aq|⟨aq,eg⟩
  all_goals
   go_wp2_with fail
   refine C.o.mono ?_;rintro e u5 ⟨rfl,c⟩;have E:=hid (pG c (by omega));rw [bg.o] at E;clear c C ao;go_wp2_with fail;refine E.o.mono ?_;rintro e u6 ⟨rfl,c⟩;have an:=hid (gO c k.o dm.o);rw [ea.o] at an;have av:=hid (ab.o _ c.bel);clear c E;go_wp2_with fail;refine an.o.mono ?_;rintro e u9 ⟨rfl,rfl⟩;go_wp2_with fail;go_ret;exact ⟨rfl,av.o⟩
 have h0:(zP S 0 t).1.2=0:=by grind
 have hn:zC S.D t≠[]:=by grind
 have be:cs.length≠0:=by rw [ac.o];exact fun e=>hn (List.length_eq_zero_iff.1 e)
 obtain ⟨q1,q2,T,q4⟩:=zK3 af.o Q.o aj.o h0 hn
 have HW:Hid (∀z∈cs,WhC S (zP S 0 t).2 z.ch/\yE (z.a,z.b)):=hid fun z hz=>by
  have hm:z.ch∈zC S.D t:=by rw [<-am.o];exact xaI hz
  exact ⟨q4 _ hm,zQQ (af.o.txs t (List.mem_of_getElem? Q.o)) hm⟩
 rw [<-ac.o] at T
 generalize zP S 0 t=CM at *
 obtain ⟨⟨st,cd⟩,S5⟩:=CM;simp only at q1 q2 T h0 L HW;subst h0;subst q1;have ar:=hid q2;have bg:=hid T;have dv:=hid be;have aq:(((cs.length:Nat):Int)==0)=false:=by simpa using be
 clear q2 T q4 hno hn be y am ac;go_wp2_with fail;refine L.o.mono ?_;rintro e u4 ⟨rfl,c⟩;have ao:=hid c;have bt:=c.okS.top;rw [ar.o] at bt;unfold sL at bt;have el:0<=S.last:=by have h1:=af.o.fl;have Y:=af.o.fl0;exact Int.le_trans Y h1
 clear c L af;have C:=hid (mD ao.o);rw [ar.o] at C;obtain ⟨n,hn⟩:=eE (S.last+1);have hw:IntKind.u64.wrap (S.last+1)=n:=by rw [IntKind.wrap_u64];omega
 rw [hn] at C ar;have du:(n != n)=false:=by simp
 have dw:IntKind.i64.wrap ((zS S.D:Nat)+(cs.length:Nat):Int)=((zS S.D+cs.length:Nat):Int):=by rw [xam];omega
 have eb:(((zS S.D+cs.length:Nat):Int) != ((zS S.D+cs.length:Nat):Int))=false:=by simp
 go_wp2_with fail
 refine C.o.mono ?_;rintro e u5 ⟨rfl,c⟩;have E:=hid (pG c (by omega));rw [bg.o] at E;clear c C ao;go_wp2_with fail;refine E.o.mono ?_;rintro e u6 ⟨rfl,c⟩;have de:=hid c;clear c E;go_wp2_with fail;have HN:=hid hn;clear aq hw dw du eb hn X
 go_loopg [156] cs.length (fun gg vi wr=>∃i:Nat,vi=ii i/\i<=cs.length/\cs.length-i<=gg/\Hid (Sto s (zB5 A u1) (1+d.length+os.length) h gs S5 wr))
 case atStart=>exact ⟨0,rfl,by omega,by omega,de.o⟩
 clear de;obtain ⟨i,rfl,hi,az,J⟩:=hrel
 by_cases hlt:i<cs.length
 ·have X:(i:Int)<(cs.length:Int):=by omega
  have df:(0:Int)<=i:=by omega
  obtain ⟨dc,di⟩:=zOE ed.o J.o bl.o bq.o dv.o;obtain ⟨b7,o7,rfl,U⟩:=zQU dc hlt;have dj:=di _ (zaN hlt);have dx:=HW.o _ (zaN hlt)
  generalize cs[i]=z at *
  have ai:=hid U;have dh:=hid dj;obtain ⟨dp,bf⟩:=dx;obtain ⟨v',e1,P,e3,V,e5⟩:=dp;rw [HN.o] at e1 P;have HE:=hid (xbf P (xbf e3 V));have cj:=hid e5;obtain ⟨B,V1,H,K,O,N,F⟩:=zF2 wr 67 [tq ⟨#[]⟩,tq ⟨#[]⟩,.bool false,sc none 0 0,.bool false,sc none 0 0] (xB z) rfl
  have HY:Hid (∀f,Bw H f->f.cell? (aa B 0)=some (tq z.a)/\f.cell? (aa B 1)=some (tq z.b)/\f.cell? (aa B 2)=some (.bool z.wl)/\f.cell? (aa B 4)=some (.bool z.il)/\f.cell? (aa B 5)=some (sc z.ip z.io.length z.ic)):=hid fun f W=>by
   have q:=(W.block B (gA F.o.1).1).trans F.o.1;refine ⟨?_,?_,?_,?_,?_⟩<;>(rw [zaC q];rfl)
  have bb:=hid (J.o.on F.o.2.1);have bh:=hid (zG0 bb.o (z.a,z.b) bf n);have e1':atV (ofD S5.D (z.a,z.b)) n=some v':=e1;rw [e1'] at bh;have cx:Hid (∀v:Vx,v.ver=v'->yV v.o):=hid fun v hv=>zOG (o:=some v') hv fun u hu=>by cases hu;exact bb.o.okS.may _ _ (zNl e1')
  have ds:=hid bf;obtain ⟨y0,y1,_,_,_⟩:=HY.o H (zaR _ _);clear J dc di U dj e1 P e3 V e5 bf e1';go_upto_region 31 with (first|(refine yW rfl 67 _ rfl b7 (o7+i * 6) rfl (xB z) _ ai.o underlying67 rfl Tryz.chgSize (.agg (xB z).toArray) rfl ?_)|(refine zJ rfl 67 _ _ rfl B 0 (xB z).toArray rfl rfl O.o Tryz.chgSize (zOr z) H N.o ?_)|(rw [K.o.1,K.o.2];refine zJ rfl 67 _ _ rfl B 0 (xB z).toArray rfl rfl O.o Tryz.chgSize (zOr z) H N.o ?_))
  go_wp2_with fail
  refine bh.o.mono ?_;rintro e u7 ⟨v,rfl,cy,bw,bd⟩;have hver':v.ver=v':=cy;obtain ⟨B2,V2,W5,HA2,HTH2,HW5,H5⟩:=zF2 u7 42 [ii 0,iu 0,ii 0,.bool false,sc none 0 0] (zF v) rfl;have ad:=hid (zA bd bd.size H5.o.2.1)
  have dy:Hid (∀f,Bw W5 f->f.cell? (aa B2 0)=some (ii v.num)/\f.cell? (aa B2 1)=some (iu v.stamp)/\f.cell? (aa B2 3)=some (.bool v.live)/\f.cell? (aa B2 4)=some v.sl/\wC f v.sl v.o):=hid fun f W=>by
   have q:=(W.block B2 (gA H5.o.1).1).trans H5.o.1;refine ⟨?_,?_,?_,?_,((bw.on H5.o.2.1).on W).1.is⟩<;>(rw [zaC q];rfl)
  have dk:=hid (cx.o v hver');have ak:=hid hver';have ax:=hid (bb.o.on ad.o);have cq:=hid (zG0 ax.o (z.a,z.b) ds.o S.last);obtain ⟨y0,y1,_,_,_⟩:=HY.o W5 ad.o;clear cy hver' bw bd cx bb bh;go_upto_region 32 with (rw [HA2.o.1,HA2.o.2];refine zJ rfl 42 _ _ rfl B2 0 (zF v).toArray rfl rfl HTH2.o Tryz.verSize (zO6 v) W5 HW5.o ?_)
  have ca:(match atV (ofD S5.D (z.a,z.b)) S.last with|some u=>u.live=z.wl/\v'.num=u.num+1|none=>z.wl=false/\v'.num=1):=cj.o;have db:=ax.o.num (z.a,z.b) S.last
  generalize atV (ofD S5.D (z.a,z.b)) S.last=o2 at *
  have cr:=hid ca;have dl:=hid db;clear ca db cj;go_wp2_with fail;refine cq.o.mono ?_;rintro e u8 ⟨u,rfl,da,_,bk⟩;obtain ⟨B3,V3,W6,HA3,HTH3,HW6,H6⟩:=zF2 u8 42 [ii 0,iu 0,ii 0,.bool false,sc none 0 0] (zF u) rfl;have ba:=hid (zA bk bk.size H6.o.2.1);have dn:=hid da;have bx:=hid (ax.o.on ba.o);clear bk da ax cq;go_upto_region 33 with (rw [HA3.o.1,HA3.o.2];refine zJ rfl 42 _ _ rfl B3 0 (zF u).toArray rfl rfl HTH3.o Tryz.verSize (zO6 u) W6 HW6.o ?_)
  obtain ⟨c0,c1,c2,c4,c5⟩:=HY.o W6 (zA ad.o ad.o.size ba.o);obtain ⟨d0,d1,d3,d4,hvx⟩:=dy.o W6 ba.o;have f0:W6.cell? (aa B3 0)=some (ii u.num):=by rw [zaC H6.o.1];rfl
  have f3:W6.cell? (aa B3 3)=some (.bool u.live):=by rw [zaC H6.o.1];rfl
  obtain ⟨P,e3,V⟩:=HE.o;rw [show v.stamp=n from (xad Vr.stamp ak.o).trans P] at d1;rw [show v.live=z.il from (xad Vr.live ak.o).trans e3] at d3;have bj:=hid (zMM v.sl (sc z.ip z.io.length z.ic) v.o z.io W6 hvx (dh.o.1.kept (zA F.o.2.1 F.o.2.1.size (zA ad.o ad.o.size ba.o))) dk.o dh.o.2);rw [xas (show v.o.map Fx.fld=z.io.map Fx.fld from (xad Vr.val ak.o).trans V)] at bj;clear hvx P e3 V;have cb:Hid (∀m,Sto s (zB5 A u1) (1+d.length+os.length) h gs S5 (W6.drewN m)):=hid fun m=>bx.o.on (zG (zaR W6.heap.size W6) m)
  clear bx
  cases o2 with
  | none =>
   obtain ⟨h1,Y⟩:z.wl=false/\v'.num=1:=cr.o;rw [h1] at c2;rw [show v.num=1 from (xad Vr.num ak.o).trans Y] at d0;clear h1 Y;go_wp2_with fail;refine bj.o.mono ?_;rintro e w7 ⟨rfl,m,rfl⟩;go_wp2_with fail;go_roundg (cs.length-(i+1))
   case measure=>omega
   exact ⟨i+1,by go_num,by omega,by omega,cb.o m⟩
  | some u' =>
  obtain ⟨h1,Y⟩:u'.live=z.wl/\v'.num=u'.num+1:=cr.o;have h3:u.ver=u':=dn.o;rw [show u.live=z.wl from (xad Vr.live h3).trans h1] at f3;have h4:u.num=u'.num:=xad Vr.num h3;rw [show v.num=u.num+1 from ((xad Vr.num ak.o).trans Y).trans (by rw [h4])] at d0
  have ei:IntKind.i64.wrap (u.num+1)=u.num+1:=by
   have h5:0<=u'.num/\u'.num<=((1+d.length+os.length:Nat):Int):=dl.o;rw [xam];omega
  clear h1 Y h3 h4;go_wp2_with fail;refine bj.o.mono ?_;rintro e w7 ⟨rfl,m,rfl⟩;go_wp2_with fail;go_roundg (cs.length-(i+1))
  case measure=>omega
  exact ⟨i+1,by go_num,by omega,by omega,cb.o m⟩
 have X:¬ (i:Int)<(cs.length:Int):=by omega
 have av:=hid (ab.o _ J.o.bel);clear J;go_wp2_with fail;go_ret;exact ⟨rfl,av.o⟩
theorem zN {a b:Bool} (c:a=true) (d:b=true):(a&&b)=true:=by rw [c,d];rfl
theorem cV:(Rows.storeWholeUptoRow.wf (OpenSpec.ofChange (Rows.OpenSpec.upto Rows.storeWholeSpec).bare))=true:=by kernel_rfl
theorem bQ:(laidOutB Tryz.pinned.checked.prog)=true:=by kernel_rfl
theorem bB:(mapsRowed Tryz.pinned.checked.prog)=true:=by kernel_rfl
theorem bS:(Tryz.f4.params.all (Tryz.pinned.checked.prog.readableRec ·))=true:=by kernel_rfl
theorem zAN:(namedTie Tryz.pinned.checked.prog Rows.storeWholeUptoRow.named (Rows.OpenSpec.upto Rows.storeWholeSpec).bare.vars)=true:=by kernel_rfl
theorem zAV:((Rows.storeWholeUptoRow.stops==[]))=true:=by kernel_rfl
theorem zA0:((Tryz.pinned.checked.prog.stops==[]))=true:=by kernel_rfl
theorem bD:((Rows.storeWholeUptoRow.knobs==[]))=true:=by kernel_rfl
theorem zAE:((Tryz.pinned.checked.prog.stopKnobs==[]))=true:=by kernel_rfl
theorem bU:((Rows.storeWholeUptoRow.inPlace==Tryz.pinned.checked.prog.inPlace 4))=true:=by kernel_rfl
theorem fX:((Rows.storeWholeUptoRow.unfollowed==Tryz.pinned.checked.prog.unfollowed 4))=true:=by kernel_rfl
theorem dU:((Rows.storeWholeUptoRow.recurses==Tryz.pinned.checked.prog.recurses 4))=true:=by kernel_rfl
theorem dM:((Rows.storeWholeUptoRow.named==Tryz.pinned.checked.prog.varsNamed 4))=true:=by kernel_rfl
theorem dG:((Rows.storeWholeUptoRow.maps==(Tryz.f4.params.toList++(Rows.OpenSpec.upto Rows.storeWholeSpec).bare.plain.varTypes Tryz.pinned.checked.prog).any (Tryz.pinned.checked.prog.mapsRec ·)))=true:=by kernel_rfl
theorem cS:((Rows.storeWholeUptoRow.ifaces==(Tryz.f4.params.toList++(Rows.OpenSpec.upto Rows.storeWholeSpec).bare.plain.varTypes Tryz.pinned.checked.prog).any (Tryz.pinned.checked.prog.ifacesRec ·)))=true:=by kernel_rfl
theorem dP:((Rows.storeWholeUptoRow.mapsOut==Tryz.pinned.checked.prog.mapsAmong Tryz.f4.resultTypes.toList))=true:=by kernel_rfl
theorem fY:((Rows.storeWholeUptoRow.loops==(Tryz.f4.params.toList++(Rows.OpenSpec.upto Rows.storeWholeSpec).bare.plain.varTypes Tryz.pinned.checked.prog).any (Tryz.pinned.checked.prog.loopsFrom ·)))=true:=by kernel_rfl
theorem cM:((Rows.storeWholeUptoRow.wideKeys==(Tryz.f4.params.toList++(Rows.OpenSpec.upto Rows.storeWholeSpec).bare.plain.varTypes Tryz.pinned.checked.prog++Tryz.f4.resultTypes.toList).any (Tryz.pinned.checked.prog.wideKeysFrom ·)))=true:=by kernel_rfl
theorem dB:((Rows.OpenSpec.upto Rows.storeWholeSpec).bare.vars.all (Tryz.pinned.checked.prog.varReadable ·))=true:=by kernel_rfl
theorem dQ:(Tryz.f4.resultTypes.all (fun t=>Tryz.pinned.checked.prog.readableRec t&&decide (t<Tryz.pinned.checked.prog.types.size)))=true:=by kernel_rfl
theorem cA:((Rows.storeWholeUptoRow.ifacesOut==Tryz.f4.resultTypes.toList.any (Tryz.pinned.checked.prog.ifacesRec ·)))=true:=by kernel_rfl
theorem dN:((Rows.storeWholeUptoRow.loopsOut==Tryz.f4.resultTypes.toList.any (Tryz.pinned.checked.prog.loopsFrom ·)))=true:=by kernel_rfl
theorem dR:((Rows.storeWholeUptoRow.plainKeys==Tryz.pinned.checked.prog.plainKeys))=true:=by kernel_rfl
theorem dJ:(Rows.storeWholeUptoRow.shortTexts.isNone)=true:=by kernel_rfl
theorem cT:(Tryz.pinned.checked.prog.stopsHeard)=true:=by kernel_rfl
theorem dL:(Tryz.pinned.checked.prog.mayEnter)=true:=by kernel_rfl
theorem dT:((Rows.storeWholeUptoRow.lifted==Tryz.pinned.checked.prog.liftsFinal))=true:=by kernel_rfl
theorem dW:((Tryz.pinned.checked.prog.make==some Rows.storeWholeUptoRow.make))=true:=by kernel_rfl
theorem cI:((Rows.storeWholeUptoRow.kinds==(if Rows.storeWholeUptoRow.domain.isEmpty then [] else Tryz.f4.params.toList.map fun t=>match Tryz.pinned.checked.prog.underlying t with|some (.int k)=>some k|_=>none)))=true:=by kernel_rfl
theorem dZ:((Rows.storeWholeUptoRow.pinned==Rows.storeWholeUptoRow.pinnedBy))=true:=by kernel_rfl
theorem cH:((Rows.storeWholeUptoRow.veiled==(Tryz.f4.params.toList++(Rows.OpenSpec.upto Rows.storeWholeSpec).bare.plain.varTypes Tryz.pinned.checked.prog++Tryz.f4.resultTypes.toList).any (Tryz.pinned.checked.prog.veiledRec ·)))=true:=by kernel_rfl
theorem cJ:(Rows.storeWholeUptoRow.veiledFits Tryz.pinned.checked.prog Tryz.f4.params.toList (Tryz.f4.params.toList++(Rows.OpenSpec.upto Rows.storeWholeSpec).bare.plain.varTypes Tryz.pinned.checked.prog++Tryz.f4.resultTypes.toList))=true:=by kernel_rfl
end Go.Proofs.YtkhljboeffhciaaGreat
