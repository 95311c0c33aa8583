/- A part of the proof. -/
import Derived.Test.YtkhljboeffhciaaGreatPf
import Derived.JoinedOf
set_option maxHeartbeats 40000000
set_option maxRecDepth 100000
set_option linter.unusedSimpArgs false
open Go.RowKit
namespace Go.Proofs.YtkhljboeffhciaaGreat
section
open Go.RowKit
theorem wS.box {d:World} {Z:List (Nat × Obj)} {e h:Nat} {b:List Nat} {S:Sv} {w w':World} {B:Nat} (x:Sto d Z e h b S w) (g:Below w.heap.size w w') (f:w.heap.size=B):wS d Z e h b S B w' w':=fun i a=>x.pins g i fun p c=>⟨by rw [f];exact (a p c).1,(a p c).2⟩
theorem zGM {A B:Nat} {w:World} {n:Int} (h:w.heap[B]? = some (.cells #[.int .i64 n] 3 (0,0))) (a:A<=B):KIn.Own A w (.slice (some ⟨B,0,none⟩) 1 1) [n]:=zC.own_mk rfl a h (Nat.le_refl _) (by unfold maxLen;decide) rfl rfl
theorem zLk {A B:Nat} {w:World} {n m k:Int} (h:w.heap[B]? = some (.cells #[.int .i64 n,.int .i64 m,.int .i64 k] 3 (0,0))) (a:A<=B):KIn.Own A w (.slice (some ⟨B,0,none⟩) 3 3) [n,m,k]:=zC.own_mk rfl a h (Nat.le_refl _) (by unfold maxLen;decide) rfl rfl
theorem zNj {m:World} {ZU Z:List (Nat × Obj)} {L h R:Nat} {y:List Nat} {r:Rn} {p:Option Addr} {c:Nat} {l:List Nat} {w X C:World} {Q g d u:Nat} {t:Array Value} (x:pW m ZU L h R y r Z (.slice p l.length c) l w) (hQ:w.heap.size=Q) (P:Sto m (doB Q t++Z) (L+1) h (y++[g]) (wR r.S) X) (Y:yQ KTx m.heap.size m (.slice (some ⟨d,0,none⟩) (l.length+1) u) (l++[g]) C) (r2:X.grownBy C (Value.slice p l.length c).ownBlock) (I:(Value.slice p l.length c).ownBlock=some d∨d=X.heap.size) (aw:Q+2<=X.heap.size) :
  (C.heap[R]? = some (.cells #[.pointer (some ⟨h,0,none⟩),.slice p l.length c] 34 (0,0))/\C.heap[Q+1]? = some (.cells zOt 52 (0,0))) /\
  ∀n,Fr (fun b=>b=R) C n->n.heap[R]? = some (.cells #[.pointer (some ⟨h,0,none⟩),.slice (some ⟨d,0,none⟩) (l.length+1) u] 34 (0,0))->(Calls Tryz.prog 12 #[.pointer (some ⟨g,0,none⟩)] n fun e w'=>e=.returned (.int .u64 r.S.last)/\w'=n)/\n.heap[Q+1]? = some (.cells zOt 52 (0,0)) /\
  ∀z,Fr (fun b=>b=Q+1) n z->nO m ZU (L+1) h R y ({ stamp:=r.S.last },⟨wR r.S,r.ids++[r.S.txs.length]⟩) w (.returned (.agg (zS { st:=r.S.last }).toArray)) z:=by
 have am:=(World.ownsRow.lt (show C.ownsRow m.heap.size KTx.T KTx.k _ _ (KTx.cells (l++[g])) from Y.own) d rfl)
 obtain ⟨o,F⟩:=P.grown2 (v:=.slice p l.length c) (fun k A=>⟨by
  have:=World.ownsRow.lt (show w.ownsRow m.heap.size KTx.T KTx.k _ _ (KTx.cells l) from x.row.own) k A
  exact this.1,by
  obtain ⟨b,hb⟩:=(x.own k A).2.1
  exact ⟨b,List.mem_append.2 (Or.inr hb)⟩⟩) r2 I am.2
 have ax:=x.lt
 have J:∀q∈doB Q t,q∈(d,o)::(doB Q t++Z).filter (fun f=>!decide ((Value.slice p l.length c).ownBlock=some f.1)):=fun q a=>List.mem_cons_of_mem _ (List.mem_filter.2 ⟨List.mem_append.2 (Or.inl a),by
  have D:=(zBa a).1
  simp only [Bool.not_eq_true',decide_eq_false_iff_not]
  intro e
  have:=x.olt e
  omega⟩)
 have ad:(R,Obj.cells #[.pointer (some ⟨h,0,none⟩),.slice p l.length c] 34 (0,0))∈(d,o)::(doB Q t++Z).filter (fun f=>!decide ((Value.slice p l.length c).ownBlock=some f.1)):=List.mem_cons_of_mem _ (List.mem_filter.2 ⟨List.mem_append.2 (Or.inr x.box),by
  simp only [Bool.not_eq_true',decide_eq_false_iff_not]
  intro e
  exact (x.own _ e).1 rfl⟩)
 have af:d≠R:=by
  rcases I with e|e
  ·exact (x.own _ e).1
  have:=P.low (List.mem_append.2 (Or.inr x.box))
  simp only at this
  omega
 refine ⟨⟨F.got ad,F.got (J _ (by unfold doB;simp))⟩,fun n O h6=>?_⟩
 have B:=F.turn ad O x.base h6
 have ac:=x.sto.len
 have ht:(wR r.S).txs[y.length]? = some (qR r.S.last):=by
  rw [ac]
  unfold wR
  simp
 have ah:n.heap[Q+1]? = some (.cells zOt 52 (0,0)):=(O.block _ (by have:=(Array.getElem?_eq_some_iff.1 (F.got (J (Q+1,.cells zOt 52 (0,0)) (by unfold doB;simp)))).1;exact this) (by omega)).trans (F.got (J _ (by unfold doB;simp)))
 refine ⟨zO2 B (i:=y.length) (g:=g) (by simp) ht,ah,fun z H=>?_⟩
 have N:∀q,(q∈doB Q t∨(q∈Z/\(Value.slice p l.length c).ownBlock≠some q.1))->q.1≠R->q∈(R,Obj.cells #[.pointer (some ⟨h,0,none⟩),.slice (some ⟨d,0,none⟩) (l.length+1) u] 34 (0,0))::((d,o)::(doB Q t++Z).filter (fun f=>!decide ((Value.slice p l.length c).ownBlock=some f.1))).filter (fun f=>!decide (f.1=R)):=fun q a V=>by
  refine List.mem_cons_of_mem _ (List.mem_filter.2 ⟨?_,by simpa using V⟩)
  rcases a with a|⟨a,au⟩
  ·exact J q a
  exact List.mem_cons_of_mem _ (List.mem_filter.2 ⟨List.mem_append.2 (Or.inr a),by simpa using au⟩)
 have U:(d,o)∈(R,Obj.cells #[.pointer (some ⟨h,0,none⟩),.slice (some ⟨d,0,none⟩) (l.length+1) u] 34 (0,0))::((d,o)::(doB Q t++Z).filter (fun f=>!decide ((Value.slice p l.length c).ownBlock=some f.1))).filter (fun f=>!decide (f.1=R)):=List.mem_cons_of_mem _ (List.mem_filter.2 ⟨List.mem_cons_self ..,by simpa using af⟩)
 obtain ⟨G,ab⟩:∃G,(R,Obj.cells #[.pointer (some ⟨h,0,none⟩),.slice (some ⟨d,0,none⟩) (l.length+1) u] 34 (0,0))::((d,o)::(doB Q t++Z).filter (fun f=>!decide ((Value.slice p l.length c).ownBlock=some f.1))).filter (fun f=>!decide (f.1=R))=G:=⟨_,rfl⟩
 have av:(R,Obj.cells #[.pointer (some ⟨h,0,none⟩),.slice (some ⟨d,0,none⟩) (l.length+1) u] 34 (0,0))∈G:=by rw [<-ab];exact List.mem_cons_self ..
 rw [ab] at B N U
 have an:(Q+1,Obj.cells zOt 52 (0,0))∈G:=N _ (Or.inl (by unfold doB;simp)) (by simp only;omega)
 have W:Sto m (G.filter (fun f=>!decide (f.1=Q+1))) (L+1) h (y++[g]) (wR r.S) z:=by
  have a:=(H.block (Q+1) · ·)
  obtain ⟨cc,⟨s,pp,gg,e1,e2,K⟩,hl,hz⟩:=B.ex
  refine ⟨⟨cc,⟨s,pp.fr H fun j _ e=>by rw [e];exact (hz _ an).2,gg,e1,e2,K⟩,hl,fun q a=>?_⟩,B.bel.trans (H.below B.bel.size fun j hj=>by have:=x.sto.bel.size;omega)⟩
  obtain ⟨h0,h9⟩:=List.mem_filter.1 a
  obtain ⟨D,E⟩:=hz q h0
  exact ⟨(H.block _ (Array.getElem?_eq_some_iff.1 D).1 (by simpa using h9)).trans D,E⟩
 have aq:∀q,(q∈Z/\(Value.slice p l.length c).ownBlock≠some q.1)->q.1≠R->q∈G.filter (fun f=>!decide (f.1=Q+1)):=fun q a V=>List.mem_filter.2 ⟨N q (Or.inr a) V,by
  have:=x.sto.low a.1
  simp only [Bool.not_eq_true',decide_eq_false_iff_not]
  omega⟩
 have ag:d≠Q+1:=by
  rcases I with e|e
  ·have:=x.olt e
   omega
  omega
 refine ⟨{ st:=r.S.last },z.heap.size,z,y++[g],rfl,⟨(yH _ _).ver,(yH _ _).fnd,(yH _ _).vrs,(yH _ _).num,(yH _ _).mrk,(yH _ _).chg⟩,rfl,?_,fun i q a=>by grind,fun M ao=>?_⟩
 ·have:=H.size
  have:=O.size
  have:=r2.size
  omega
 have ar:M=[]:=by
  cases M with
  | nil=>rfl
  | cons q M =>
  obtain ⟨D,E⟩:=ao q (List.mem_cons_self ..)
  have:=(Array.getElem?_eq_some_iff.1 E).1
  omega
 subst ar
 rw [List.nil_append]
 have al:yQ KTx m.heap.size m (.slice (some ⟨d,0,none⟩) (l.length+1) u) (l++[g]) z:=by
  have ae:=B.got U
  have ap:=F.got (List.mem_cons_self ..:(d,o)∈_)
  have ak:=(H.block d (Array.getElem?_eq_some_iff.1 ae).1 ag).trans ae
  exact ⟨bP Y.own fun k A=>by
   have e:d=k:=Option.some.inj A
   rw [<-e,ak,ap],W.bel,W.bel.size⟩
 refine ⟨_,_,_,W,fun q a=>aq q ⟨x.sub q a,fun e=>(x.own _ e).2.2 q a rfl⟩ (x.off q a),List.mem_filter.2 ⟨av,by simp only [Bool.not_eq_true',decide_eq_false_iff_not];omega⟩,al,by simp [x.len],fun j i hi=>?_,fun k A=>?_,x.off,x.base⟩
 ·by_cases hj:j<r.ids.length
  ·rw [List.getElem?_append_left hj] at hi
   obtain ⟨gq,D,E⟩:=x.ids j i hi
   have ai:j<l.length:=by rw [x.len];exact hj
   exact ⟨gq,by rw [List.getElem?_append_left ai];exact D,by rw [List.getElem?_append_left (List.getElem?_eq_some_iff.1 E).1];exact E⟩
  have aj:j=r.ids.length:=by
   have:=(List.getElem?_eq_some_iff.1 hi).1
   simp at this
   omega
  subst aj
  have hi':i=r.S.txs.length:=by simpa using hi.symm
  subst hi'
  exact ⟨g,by rw [<-x.len];simp,by rw [<-ac];simp⟩
 have e:d=k:=Option.some.inj A
 subst e
 refine ⟨af,⟨o,List.mem_filter.2 ⟨U,by simp only [Bool.not_eq_true',decide_eq_false_iff_not];exact ag⟩⟩,fun q a e=>?_⟩
 rcases I with K|K
 ·exact (x.own _ K).2.2 q a e
 have:=P.low (List.mem_append.2 (Or.inr (x.sub q a)))
 omega
theorem zNB {q:World} {Z:List (Nat × Obj)} {u h:Nat} {j:List Nat} {S:Sv} {w:World} (x:Sto q Z u h j S w) (k:Ky) (g:yL k) (t:Int) :
  Calls Tryz.prog 22 #[.pointer (some ⟨h,0,none⟩),.agg #[.string k.1,.string k.2],.int .u64 t] w fun e a=>∃z:Vx,e=.returned (.tuple #[.agg (zF z).toArray,.bool (tK S.D t k).isSome])/\z.ver=(tK S.D t k).getD zeroV/\(zW w.heap.size a z.sl z.o/\xB z.o)/\Below w.heap.size w a:=by
 have l:=x.okS
 obtain ⟨⟨c,⟨s,p,f,rfl,rfl,rfl⟩,y,B⟩,A⟩:=x
 refine (cV p.stat p.dirS k g t).mono ?_
 rintro e a m
 obtain ⟨z,b,rfl,n,d,i,r⟩:=zBo m fun v d=>l.may k v (zFP d)
 rw [n]
 exact ⟨z,rfl,d,i,r⟩
theorem pW.pick {v:World} {n Z:List (Nat × Obj)} {y h R:Nat} {f:List Nat} {r:Rn} {p:Option Addr} {c:Nat} {l:List Nat} {w:World} (x:pW v n y h R f r Z (.slice p l.length c) l w) {j:Nat} (hj:j<l.length) (o:O15) (s:o.x=(j:Int)) (a:o.kind≠1/\o.kind≠16/\o.kind≠17/\o.kind≠18/\o.kind≠19) :
  ∃g b e i tx,p=some ⟨b,e,none⟩/\w.cell? ⟨b,e+j,none⟩=some (.pointer (some ⟨g,0,none⟩))/\f[i]? = some g/\r.S.txs[i]? = some tx/\cU r o=((nW r.S i tx o).1,⟨(nW r.S i tx o).2,r.ids⟩):=by
 have hj':j<r.ids.length:=by rw [<-x.len];exact hj
 obtain ⟨g,z,k⟩:=x.ids j r.ids[j] (List.getElem?_eq_getElem hj')
 have hi:r.ids[j]<r.S.txs.length:=by rw [<-x.sto.len];exact (List.getElem?_eq_some_iff.1 k).1
 obtain ⟨B,A,t,d⟩:=x.row.is
 injection t with e1 _ _
 subst e1
 rcases d with d|⟨b,e,m,d⟩
 ·rw [d] at hj;simp at hj
 have u:=d j hj 0 _ rfl
 have q:l[j]=g:=by
  have:=List.getElem?_eq_getElem hj
  rw [z] at this
  exact (Option.some.inj this).symm
 refine ⟨g,b,e,r.ids[j],r.S.txs[r.ids[j]],m,?_,k,List.getElem?_eq_getElem hi,?_⟩
 ·rw [<-q]
  simpa [KTx] using u
 unfold cU
 rw [if_neg a.1,if_neg a.2.1,if_neg a.2.2.1,if_neg a.2.2.2.1,if_neg a.2.2.2.2,if_neg (by omega),s]
 simp only [Int.toNat_natCast,List.getElem?_eq_getElem hj',List.getElem?_eq_getElem hi]
theorem cJ {c:World} {Q:Nat} {ot:Ot} {P:World->Prop} (g:c.heap[Q+1]? = some (.cells zOt 52 (0,0))) (h:∀a,Fr (fun b=>b=Q+1) c a->P a) :
  Hid (c.there (Q+1) 0 (zS ot).toArray.size/\(zS ot).toArray.all (·.oneCell')=true)/\∃a,Hid (c.setCells (Q+1) 0 (zS ot).toArray.toList=a/\P a/\Fr (fun b=>b=Q+1) c a)/\a.cell? ⟨Q+1,0,none⟩=some (.int .i64 ot.v.num)/\a.cell? ⟨Q+1,1,none⟩=some (.int .u64 ot.v.stamp)/\a.cell? ⟨Q+1,2,none⟩=some (.int .i64 ot.v.tick)/\a.cell? ⟨Q+1,3,none⟩=some (.bool ot.v.live)/\a.cell? ⟨Q+1,4,none⟩=some (.slice ot.v.p ot.v.o.length ot.v.cap)/\a.cell? ⟨Q+1,5,none⟩=some (.slice ot.fp ot.fs.length ot.fc)/\a.cell? ⟨Q+1,6,none⟩=some (.slice ot.wp ot.vs.length ot.wc)/\a.cell? ⟨Q+1,7,none⟩=some (.int .i64 ot.e)/\a.cell? ⟨Q+1,8,none⟩=some (.int .u64 ot.st)/\a.cell? ⟨Q+1,9,none⟩=some (.slice ot.np ot.ns.length ot.nc)/\a.cell? ⟨Q+1,10,none⟩=some (.bool ot.ok)/\a.cell? ⟨Q+1,11,none⟩=some (.slice ot.m.kp ot.m.ks.length ot.m.kc)/\a.cell? ⟨Q+1,12,none⟩=some (.slice ot.m.rp ot.m.rs.length ot.m.rc)/\a.cell? ⟨Q+1,13,none⟩=some (.slice ot.cp ot.cs.length ot.cc):=by
 obtain ⟨a,f⟩:∃a,c.setCells (Q+1) 0 (zS ot)=a:=⟨_,rfl⟩
 have j:(zS ot).length=zOt.size:=by rfl
 obtain ⟨i,d⟩:=uY g j f
 exact ⟨hid ⟨(wC (cs:=zOt.toList) g).2,zOL ot⟩,a,hid ⟨f,h a d,d⟩,zEl i⟩
theorem zCB {a:World} {Z:List (Nat × Obj)} {b h Q:Nat} {d:List Nat} {S:Sv} {c:Array Value} {V w:World} (hs:Hid (V.heap.size=Q+2)) (cs:Array Value) (x:Sto a (doB Q c++Z) b h d S w):∃B w5,Hid (w.heap.size=B/\w.alloc (.cells cs 3)=w5)/\Hid (w5.heap[B]? = some (.cells cs 3 (0,0))/\wS a (doB Q c++Z) b h d S B w5 w5/\V.heap.size<=B):=by
 refine ⟨_,_,hid ⟨rfl,rfl⟩,hid ⟨heap_alloc_new w _,wS.box x ((Below.refl _ _).alloc (Nat.le_refl _) _) rfl,?_⟩⟩
 have:=x.low (p:=(Q+1,.cells zOt 52 (0,0))) (by unfold doB;simp)
 simp only at this
 have:=hs.out
 omega
theorem zAz {a:World} {Z:List (Nat × Obj)} {b h Q:Nat} {d:List Nat} {S:Sv} {c:Array Value} {w:World} (x:Sto a (doB Q c++Z) b h d S w):w.heap[Q+1]? = some (.cells zOt 52 (0,0)):=x.got (by unfold doB;simp)
theorem zNg {N:World} {ZU:List (Nat × Obj)} {Y h R:Nat} {gs:List Nat} {r:Rn} {w:World} (x:kN N ZU Y h R gs r w) (hn:Y<=80000000) (hl:r.ids.length<=100000000) (o:Ov) (ho:zB7 w o) :
  Calls Tryz.prog 9 #[.pointer (some ⟨R,0,none⟩),.agg (xT o).toArray] w fun e a=>nO N ZU (Y+1) h R gs (cU r o.op) w e a:=by
 obtain ⟨Z,v,l,x⟩:=x
 obtain ⟨am,q0,q1,ax⟩:=wY w (xT o).toArray zOt 40 52
 obtain ⟨V,hV⟩:∃V,(w.alloc (.cells (xT o).toArray 40)).alloc (.cells zOt 52)=V:=⟨_,rfl⟩
 obtain ⟨Q,hQ⟩:∃Q,w.heap.size=Q:=⟨_,rfl⟩
 rw [hV] at am q0 q1 ax
 rw [hQ] at q0 q1 ax
 have bh:=x.sto.pins am (doB Q (xT o).toArray) (zN3 hQ q0 q1)
 obtain ⟨p,c,rfl⟩:=x.shape
 have ch:=(x.on am).cells
 have G:=hid x
 have ai:=hid ax
 have HQ:=hid hQ
 have HO:=hid (ho.on am)
 have HB:=hid am
 have dl:l.length<=100000000:=by rw [x.len];exact hl
 obtain ⟨RR,bl⟩:∃RR,cU r o.op=RR:=⟨_,rfl⟩
 rw [bl]
 obtain ⟨C,hC⟩:∃C,(xT o).toArray=C:=⟨_,rfl⟩
 rw [hC] at bh q0
 have HV:=hid bh
 obtain ⟨L,F,J,H,vp,vc,vo,pp,pc,pt,I,t⟩:=o
 simp only [xT,Ov.op] at *
 have HR:=hid bl
 have HC:=hid hC
 have HS:Hid (∀a:World,a.heap[Q]? = some (.cells C 40 (0,0))->a.heap[R]? = some (.cells #[.pointer (some ⟨h,0,none⟩),.slice p l.length c] 34 (0,0))->(a.cell? ⟨R,0,none⟩=some (.pointer (some ⟨h,0,none⟩))/\a.cell? ⟨R,1,none⟩=some (.slice p l.length c)/\(a.cell? ⟨Q,2,none⟩=some (.string J)/\a.cell? ⟨Q,3,none⟩=some (.string H))/\a.cell? ⟨Q,6,none⟩=some (.int .u64 I)/\a.cell? ⟨Q,1,none⟩=some (.int .i64 F)/\a.cell? ⟨Q,7,none⟩=some (.int .i64 t))):=hid fun a q r=>by
  rw [<-HC.out] at q
  refine ⟨?_,?_,⟨?_,?_⟩,?_,?_,?_⟩<;>first|(rw [Lib.cell_of_heap q];rfl)|(rw [Lib.cell_of_heap r];rfl)
 have ag:Hid (∀(u a:World) (nr':Nat) (gs':List Nat) (S':Sv),Sto N (doB Q C++Z) nr' h gs' S' u->Fr (fun b=>b=Q+1) u a->(a.cell? ⟨R,0,none⟩=some (.pointer (some ⟨h,0,none⟩))/\a.cell? ⟨R,1,none⟩=some (.slice p l.length c)/\(a.cell? ⟨Q,2,none⟩=some (.string J)/\a.cell? ⟨Q,3,none⟩=some (.string H))/\a.cell? ⟨Q,6,none⟩=some (.int .u64 I)/\a.cell? ⟨Q,1,none⟩=some (.int .i64 F)/\a.cell? ⟨Q,7,none⟩=some (.int .i64 t))):=hid fun u a _ _ _ y f=>by
  have e1:=y.got (k:=Q) (b:=.cells C 40 (0,0)) (by unfold doB;simp)
  have e2:=y.got (List.mem_append.2 (Or.inr G.out.box))
  have:=G.out.lt
  have:=HQ.out
  exact HS.out _ ((f.block _ (Array.getElem?_eq_some_iff.1 e1).1 (by omega)).trans e1) ((f.block _ (Array.getElem?_eq_some_iff.1 e2).1 (by omega)).trans e2)
 have a0:V.cell? ⟨Q,0,none⟩=some (.int .i64 L):=by rw [<-hC] at q0;rw [Lib.cell_of_heap q0];rfl
 have ab:=HS.out V q0 ch
 clear x ho bh am q0 q1 ax ch bl hC
 unfold zOt at hV
 go_enter Tryz.func9,Tryz.ntmps9
 go_upto_region 1 with fail
 try rw [hV]
 try rw [hQ]
 clear hV hQ
 by_cases k1:L=1
 ·subst k1
  obtain ⟨i0,cc,de,dc,dg⟩:=info_parts Tryz.infoX15
  have di:=hid cc
  obtain ⟨bd,bc,-⟩:=ab
  go_wp2_with fail
  refine (gC HV.out (by omega)).mono ?_
  rintro e3 w3 ⟨g,rfl,bg⟩
  obtain ⟨B,hB⟩:∃B,w3.heap.size=B:=⟨_,rfl⟩
  obtain ⟨X,hX⟩:∃X,w3.alloc (.cells #[.pointer (some ⟨g,0,none⟩)] 54)=X:=⟨_,rfl⟩
  have ah:=bg.on (show Below w3.heap.size w3 X by rw [<-hX];exact (Below.refl _ _).alloc (Nat.le_refl _) _)
  have cp:Hid (X.heap[B]? = some (.cells (KTx.enc g).toArray 54 (0,0))):=hid (by rw [<-hX,<-hB];exact heap_alloc_new w3 _)
  have bi:Sto N Z (Y+1) h (gs++[g]) (wR r.S) X:=ah.sub fun p hp=>List.mem_append.2 (Or.inr hp)
  have bq:=hid (zCM G.out.row G.out.sto bi fun k hk=>(G.out.own k hk).2.1)
  have bk:=hid ah
  have x0:w3.cell? ⟨R,1,none⟩=some (.slice p l.length c):=by rw [Lib.cell_of_heap (bg.got (List.mem_append.2 (Or.inr G.out.box)))];rfl
  have x1:X.cell? ⟨R,1,none⟩=some (.slice p l.length c):=by rw [Lib.cell_of_heap (bi.got G.out.box)];rfl
  clear bg ah bi cc a0 bd bc
  go_upto_region 5 with (first|(at_builtin;(try rw [hB]);(try rw [hX]);refine wE KTx rfl _ _ 32 rfl i0 _ 8 Tryz.underlying32 di.out de dc dg rfl N.heap.size N (.slice p l.length c) l rfl bq.out g B 1 1 rfl rfl _ _ cp.out (by unfold maxLen;omega) (by omega) ?_;intro T c3 w5 r1 r2 r3;obtain ⟨⟨ay,cq⟩,bv⟩:=zNj G.out HQ.out bk.out r1 r2 r3 (by have:=bk.out.low (p:=(Q+1,.cells zOt 52 (0,0))) (by unfold doB;simp);simp only at this;omega);have bo:=hid bv;have dh:=hid cq;have cj:=hid ay;have e1:w5.cell? ⟨R,1,none⟩=some (.slice p l.length c):=(by rw [Lib.cell_of_heap ay];rfl);have e2:w5.frozen? ⟨R,1,none⟩=false:=Lib.frozen_of_heap ay 1;clear r1 r2 r3 bv cq ay x0 x1)|fail)
  obtain ⟨W6,az⟩:∃W6,w5.setCell ⟨R,1,none⟩ (.slice (some ⟨T,0,none⟩) (l.length+1) c3)=W6:=⟨_,rfl⟩
  try rw [az]
  obtain ⟨bx,bt,cr⟩:=bo.out W6 (by rw [<-az];exact zV w5 R 1 _) (by rw [<-az];exact heap_setCell_same w5 R 1 _ _ _ cj.out)
  have ck:=hid bx
  have HF:=hid cr
  obtain ⟨E,j,s,g0,g1,g2,T,g4,g5,g6,g7,g8,g9,ad,ac,ae,af⟩:=cJ (ot:={ st:=r.S.last }) (P:=fun j=>nO N ZU (Y+1) h R gs RR w (.returned (.agg (zS { st:=r.S.last }).toArray)) j) bt (fun j f=>by rw [<-HR.out];exact HF.out j f)
  clear bx cr bt bo dh cj e1 e2 az bk bq cp hX
  go_wp2_with fail
  refine ck.out.mono ?_
  rintro e7 w7 ⟨rfl,cg⟩
  rw [cg]
  clear cg ck
  go_wp2_with (refine zN rfl 52 _ _ rfl (Q+1) 0 (zS { st:=r.S.last }).toArray rfl rfl E.out.1 Tryz.outSize E.out.2 j s.out.1 ?_)
  exact bodyPost_ret (v:=.agg (zS { st:=r.S.last }).toArray) (by simp [results,Tryz.results9,go_sem,zS,g0,g1,g2,T,g4,g5,g6,g7,g8,g9,ad,ac,ae,af]) rfl s.out.2.1
 by_cases k16:L=16
 ·subst k16
  obtain ⟨bd,bc,-⟩:=ab
  go_wp2_with fail
  refine (zCv HV.out (by omega)).mono ?_
  rintro e4 w4 ⟨rfl,ah⟩
  obtain ⟨B,w5,O,H5⟩:=zCB ai #[.int .i64 (sG r.S.D (zZ r.S):Nat)] ah
  obtain ⟨ak,m,M⟩:=H5.out
  obtain ⟨E,j,s,g0,g1,g2,T,g4,g5,g6,g7,g8,g9,ad,ac,ae,af⟩:=cJ (ot:={ st:=zZ r.S,np:=some ⟨B,0,none⟩,nc:=1,ns:=[(sG r.S.D (zZ r.S):Int)] }) (P:=fun j=>nO N ZU (Y+1) h R gs RR w (.returned (.agg (zS { st:=zZ r.S,np:=some ⟨B,0,none⟩,nc:=1,ns:=[(sG r.S.D (zZ r.S):Int)] }).toArray)) j) (zAz m.sto) (fun j f=>by rw [<-HR.out];exact zAa G.out HQ.out ai.out (ot:={ st:=zZ r.S,np:=some ⟨B,0,none⟩,nc:=1,ns:=[(sG r.S.D (zZ r.S):Int)] }) M (m.mono (Nat.le_succ _)) (fun _ _ e=>e) f ({ yH B w5 with num:=zGM ak (Nat.le_refl _) }) rfl)
  clear ak m M ah bd bc
  go_wp2_with (first|(refine zN rfl 52 _ _ rfl (Q+1) 0 (zS { st:=zZ r.S,np:=some ⟨B,0,none⟩,nc:=1,ns:=[(sG r.S.D (zZ r.S):Int)] }).toArray rfl rfl E.out.1 Tryz.outSize E.out.2 j s.out.1 ?_)|(simp only [O.out.1,O.out.2];refine zN rfl 52 _ _ rfl (Q+1) 0 (zS { st:=zZ r.S,np:=some ⟨B,0,none⟩,nc:=1,ns:=[(sG r.S.D (zZ r.S):Int)] }).toArray rfl rfl E.out.1 Tryz.outSize E.out.2 j s.out.1 ?_))
  exact bodyPost_ret (v:=.agg (zS { st:=zZ r.S,np:=some ⟨B,0,none⟩,nc:=1,ns:=[(sG r.S.D (zZ r.S):Int)] }).toArray) (by simp [results,Tryz.results9,go_sem,zS,g0,g1,g2,T,g4,g5,g6,g7,g8,g9,ad,ac,ae,af]) rfl s.out.2.1
 by_cases k17:L=17
 ·subst k17
  go_upto_region 10 with fail
  refine wp_region_held_drew (S:=fun a=>a.cell? ⟨R,0,none⟩=some (.pointer (some ⟨h,0,none⟩))/\a.cell? ⟨R,1,none⟩=some (.slice p l.length c)/\(a.cell? ⟨Q,2,none⟩=some (.string J)/\a.cell? ⟨Q,3,none⟩=some (.string H))/\a.cell? ⟨Q,6,none⟩=some (.int .u64 I)/\a.cell? ⟨Q,1,none⟩=some (.int .i64 F)/\a.cell? ⟨Q,7,none⟩=some (.int .i64 t)) (by kernel_rfl) ab (fun hHeld=>?_)
  refine tkv 0 (.pointer (some ⟨R,0,none⟩)) hHeld ?_
  simp only [Act.put,sz]
  refine tkv 1 (.pointer (some ⟨R,0,none⟩)) hHeld ?_
  simp only [Act.put,sz]
  refine tkv 2 (.pointer (some ⟨R,0,none⟩)) hHeld ?_
  simp only [Act.put,sz]
  refine tkv 3 (.pointer (some ⟨h,0,none⟩)) hHeld ?_
  simp only [Act.put,sz]
  refine tkv 4 (.pointer (some ⟨Q,7,none⟩)) hHeld ?_
  simp only [Act.put,sz]
  refine tkv 5 (.int .i64 t) hHeld ?_
  simp only [Act.put,sz]
  clear hHeld ab
  refine wpAnyH_ready (rs:=[6]) (by kernel_rfl) (by simp) ?_
  refine AllReadyH.cons (zB rfl) (fun K d=>?_) AllReadyH.nil
  rw [if_pos (by rfl)]
  go_simp
  refine (zO8 (HV.out.on (zG (Below.refl V.heap.size V) 1)) t HO.out.n1).mono ?_
  rintro e4 w4 ⟨rfl,ah⟩
  obtain ⟨B,w5,O,H5⟩:=zCB ai #[.int .i64 (xX r.S.tick t)] ah
  obtain ⟨ak,m,M⟩:=H5.out
  obtain ⟨E,j,s,g0,g1,g2,T,g4,g5,g6,g7,g8,g9,ad,ac,ae,af⟩:=cJ (ot:={ np:=some ⟨B,0,none⟩,nc:=1,ns:=[xX r.S.tick t] }) (P:=fun j=>nO N ZU (Y+1) h R gs RR w (.returned (.agg (zS { np:=some ⟨B,0,none⟩,nc:=1,ns:=[xX r.S.tick t] }).toArray)) j) (zAz m.sto) (fun j f=>by rw [<-HR.out];exact zAa G.out HQ.out ai.out (ot:={ np:=some ⟨B,0,none⟩,nc:=1,ns:=[xX r.S.tick t] }) M (m.mono (Nat.le_succ _)) (fun _ _ e=>e) f ({ yH B w5 with num:=zGM ak (Nat.le_refl _) }) rfl)
  have ca:=ag.out _ _ _ _ _ ah (Fr.refl _ _)
  have aj:=ag.out _ _ _ _ _ m.sto (Fr.refl _ _)
  have al:=ag.out _ _ _ _ _ m.sto s.out.2.2
  clear ak m M ah a0
  refine d.out _ _ ca (fun hHeld=>?_)
  clear d K
  try simp only [Act.put,sz]
  clear hHeld ca
  refine wpAnyH_ready (rs:=[7]) (by kernel_rfl) (by simp) ?_
  refine AllReadyH.cons (zB rfl) (fun K d=>?_) AllReadyH.nil
  rw [if_pos (by rfl)]
  go_simp
  go_wp2_with fail
  rw [O.out.1,O.out.2]
  refine d.out _ _ aj (fun hHeld=>?_)
  clear d K
  try simp only [Act.put,sz]
  clear aj
  refine tkv 8 (.agg #[.int .i64 0,.int .u64 0,.int .i64 0,.bool false,.slice none 0 0,.slice none 0 0,.slice none 0 0,.int .i64 0,.int .u64 0,.slice (some ⟨B,0,none⟩) 1 1,.bool false,.slice none 0 0,.slice none 0 0,.slice none 0 0]) hHeld ?_
  simp only [Act.put,sz]
  clear hHeld
  refine wpAnyH_ready (rs:=[9]) (by kernel_rfl) (by simp) ?_
  refine AllReadyH.cons (zB rfl) (fun K d=>?_) AllReadyH.nil
  rw [if_pos (by rfl)]
  refine wp_store_mid 52 _ _ rfl (Q+1) 0 (zS { np:=some ⟨B,0,none⟩,nc:=1,ns:=[xX r.S.tick t] }).toArray rfl rfl E.out.1 Tryz.outSize E.out.2 ?_
  rw [s.out.1]
  refine d.out _ _ al (fun hHeld=>?_)
  clear d K
  try simp only [Act.put,sz]
  refine wpAnyH_done (by kernel_rfl) ?_ _
  clear hHeld al
  go_wp2_with fail
  exact bodyPost_ret (v:=.agg (zS { np:=some ⟨B,0,none⟩,nc:=1,ns:=[xX r.S.tick t] }).toArray) (by simp [results,Tryz.results9,go_sem,zS,g0,g1,g2,T,g4,g5,g6,g7,g8,g9,ad,ac,ae,af]) rfl s.out.2.1
 by_cases k18:L=18
 ·subst k18
  obtain ⟨ao,bf⟩:∃ao,tK r.S.D I (J,H)=ao:=⟨_,rfl⟩
  obtain ⟨W,bm⟩:∃W,ao.isSome=W:=⟨_,rfl⟩
  have bp:Hid (∀W',Below w.heap.size w W'->Calls Tryz.prog 22 #[.pointer (some ⟨h,0,none⟩),.agg #[.string J,.string H],.int .u64 I] W' fun e a=>∃z:Vx,e=.returned (.tuple #[.agg (zF z).toArray,.bool W])/\z.ver=ao.getD zeroV/\(zW W'.heap.size a z.sl z.o/\xB z.o)/\Below W'.heap.size W' a):=hid fun W' q=>by rw [<-bm,<-bf];exact zNB (G.out.sto.on q) (J,H) HO.out.key I
  have aw:Hid (({ ver:=ao.getD zeroV,ok:=W },⟨r.S,r.ids⟩)=RR):=hid (by rw [<-HR.out,<-bm,<-bf];rfl)
  have ap:Hid (∀a,Below V.heap.size V a->(a.cell? ⟨R,0,none⟩=some (.pointer (some ⟨h,0,none⟩))/\a.cell? ⟨R,1,none⟩=some (.slice p l.length c)/\(a.cell? ⟨Q,2,none⟩=some (.string J)/\a.cell? ⟨Q,3,none⟩=some (.string H))/\a.cell? ⟨Q,6,none⟩=some (.int .u64 I)/\a.cell? ⟨Q,1,none⟩=some (.int .i64 F)/\a.cell? ⟨Q,7,none⟩=some (.int .i64 t))):=hid fun a q=>ag.out _ _ _ _ _ (HV.out.on q) (Fr.refl _ _)
  clear bf bm
  go_upto_region 12 with fail
  clear a0
  go_cut [8,9] from 10 (fun v8 v9 wx=>∃(z:Vx) (B:Nat),v8=.pointer (some ⟨B,0,none⟩)/\v9=.bool W/\Hid (AtC V ao z B wx))
  case first =>
   refine wp_region_held_drew (S:=fun a=>a.cell? ⟨R,0,none⟩=some (.pointer (some ⟨h,0,none⟩))/\a.cell? ⟨R,1,none⟩=some (.slice p l.length c)/\(a.cell? ⟨Q,2,none⟩=some (.string J)/\a.cell? ⟨Q,3,none⟩=some (.string H))/\a.cell? ⟨Q,6,none⟩=some (.int .u64 I)/\a.cell? ⟨Q,1,none⟩=some (.int .i64 F)/\a.cell? ⟨Q,7,none⟩=some (.int .i64 t)) (by kernel_rfl) ab (fun hHeld=>?_)
   refine tkv 0 (.pointer (some ⟨R,0,none⟩)) hHeld ?_
   simp only [Act.put,sz]
   refine tkv 1 (.pointer (some ⟨R,0,none⟩)) hHeld ?_
   simp only [Act.put,sz]
   refine tkv 2 (.pointer (some ⟨R,0,none⟩)) hHeld ?_
   simp only [Act.put,sz]
   refine tkv 3 (.pointer (some ⟨h,0,none⟩)) hHeld ?_
   simp only [Act.put,sz]
   refine tkv 4 (.pointer (some ⟨Q,2,none⟩)) hHeld ?_
   simp only [Act.put,sz]
   refine tkv 5 (.agg #[.string J,.string H]) hHeld ?_
   simp only [Act.put,sz]
   refine tkv 6 (.pointer (some ⟨Q,6,none⟩)) hHeld ?_
   simp only [Act.put,sz]
   refine tkv 7 (.int .u64 I) hHeld ?_
   simp only [Act.put,sz]
   clear hHeld ab
   have av:Hid (Below V.heap.size V V.drew):=hid (zG (Below.refl _ V) 1)
   generalize V.drew=X1 at *
   refine wpAnyH_ready (rs:=[8,12]) (by kernel_rfl) (by simp) ?_
   refine AllReadyH.cons (zB rfl) (fun K d=>?_) (AllReadyH.cons (zB rfl) (fun K d=>?_) AllReadyH.nil)
   rw [if_pos (by rfl)]
   go_simp
   refine (bp.out X1 (zA HB.out HB.out.size av.out)).mono ?_
   rintro e2 u2 ⟨z,rfl,aq,⟨ar,au⟩,an⟩
   obtain ⟨B,u3,O,HM⟩:=zA4 av.out aq ar au an
   have cb:=hid (zA av.out av.out.size an)
   clear aq ar au an
   go_wp2_with fail
   refine d.out _ _ (ap.out u2 cb.out) (fun hHeld=>?_)
   clear d K
   try simp only [Act.put,sz]
   refine tkv 9 (.tuple #[.agg (zF z).toArray,.bool W]) hHeld ?_
   simp only [Act.put,sz]
   refine tkv 10 (.agg (zF z).toArray) hHeld ?_
   simp only [Act.put,sz]
   refine tkv 11 (.bool W) hHeld ?_
   simp only [Act.put,sz]
   clear hHeld
   refine wpAnyH_ready (rs:=[12]) (by kernel_rfl) (by simp) ?_
   refine AllReadyH.cons (zB rfl) (fun K d=>?_) AllReadyH.nil
   rw [if_pos (by rfl)]
   go_simp
   go_wp2_with fail
   rw [O.out.1,O.out.2]
   refine d.out _ _ (ap.out u3 HM.out.2.2.1) (fun hHeld=>?_)
   clear d K
   try simp only [Act.put,sz]
   clear hHeld O cb
   rotate_left
   obtain ⟨B,u2,O,ba⟩:=jQ av.out
   rw [O.out.1,O.out.2]
   refine d.out _ _ (ap.out u2 ba.out.2.2.1) (fun hHeld=>?_)
   clear d K
   try simp only [Act.put,sz]
   clear hHeld O
   refine wpAnyH_ready (rs:=[8]) (by kernel_rfl) (by simp) ?_
   refine AllReadyH.cons (zB rfl) (fun K d=>?_) AllReadyH.nil
   rw [if_pos (by rfl)]
   go_simp
   refine (bp.out u2 (zA HB.out HB.out.size ba.out.2.2.1)).mono ?_
   rintro e3 u3 ⟨z,rfl,aq,⟨ar,au⟩,an⟩
   have HM:=gI ba.out aq ar au an
   clear aq ar au an ba
   go_wp2_with fail
   refine d.out _ _ (ap.out u3 HM.out.2.2.1) (fun hHeld=>?_)
   clear d K
   try simp only [Act.put,sz]
   refine tkv 9 (.tuple #[.agg (zF z).toArray,.bool W]) hHeld ?_
   simp only [Act.put,sz]
   refine tkv 10 (.agg (zF z).toArray) hHeld ?_
   simp only [Act.put,sz]
   refine tkv 11 (.bool W) hHeld ?_
   simp only [Act.put,sz]
   clear hHeld
   all_goals
    obtain ⟨br,j,s,HA⟩:=zBt HM.out
    refine wpAnyH_ready (rs:=[13]) (by kernel_rfl) (by simp) ?_
    refine AllReadyH.cons (zB rfl) (fun K d=>?_) AllReadyH.nil
    rw [if_pos (by rfl)]
    refine wp_store_mid 42 _ _ rfl B 0 (zF z).toArray rfl rfl br.out Tryz.verSize (wA z) ?_
    rw [s.out]
    refine d.out _ _ (ap.out j HA.out.2.2.1) (fun hHeld=>?_)
    clear d K
    try simp only [Act.put,sz]
    clear HM br s
    refine tkv 14 (.bool W) hHeld ?_
    simp only [Act.put,sz]
    refine wpAnyH_done (by kernel_rfl) ?_ _
    clear hHeld
    go_wp2_with fail
    go_meet
    exact ⟨z,B,rfl,rfl,HA.out⟩
  obtain ⟨⟨yn,ys,yt,yl,yp,yc,yo⟩,B,rfl,rfl,HA⟩:=hcut
  obtain ⟨cl,cu,ci,cd,bs,A,w3,M,hj,cw,cn⟩:=HA.out
  have m:wS N (doB Q C++Z) Y h gs r.S A w3 wc:=fun Zt dd=>HV.out.pins ci Zt fun p hp=>by obtain ⟨e1,e2⟩:=dd p hp;exact ⟨Nat.le_trans M e1,(cn p.1 e1 (Array.getElem?_eq_some_iff.1 e2).1).trans e2⟩
  have df:=hid (wC (cs:=zF ⟨yn,ys,yt,yl,yp,yc,yo⟩) cl).1
  obtain ⟨E,j,s,g0,g1,g2,T,g4,g5,g6,g7,g8,g9,ad,ac,ae,af⟩:=cJ (ot:={ v:=⟨yn,ys,yt,yl,yp,yc,yo⟩,ok:=W }) (P:=fun j=>nO N ZU (Y+1) h R gs RR w (.returned (.agg (zS { v:=⟨yn,ys,yt,yl,yp,yc,yo⟩,ok:=W }).toArray)) j) (zAz m.sto) (fun j f=>by rw [<-aw.out];exact zAa G.out HQ.out ai.out (ot:={ v:=⟨yn,ys,yt,yl,yp,yc,yo⟩,ok:=W }) M (m.mono (Nat.le_succ _)) (fun _ _ e=>e) f ({ yH A w3 with ver:=⟨hj,bs⟩ }) (by unfold Ot.r;simp only;rw [cd];rfl))
  clear cl cu ci cd bs M hj cw cn m
  go_wp2_with (first|(refine xL rfl 42 _ rfl B 0 rfl (zF ⟨yn,ys,yt,yl,yp,yc,yo⟩) _ df.out Tryz.underlying42 rfl Tryz.verSize (.agg #[.int .i64 yn,.int .u64 ys,.int .i64 yt,.bool yl,.slice yp yo.length yc]) rfl ?_)|(refine zN rfl 52 _ _ rfl (Q+1) 0 (zS { v:=⟨yn,ys,yt,yl,yp,yc,yo⟩,ok:=W }).toArray rfl rfl E.out.1 Tryz.outSize E.out.2 j s.out.1 ?_))
  exact bodyPost_ret (v:=.agg (zS { v:=⟨yn,ys,yt,yl,yp,yc,yo⟩,ok:=W }).toArray) (by simp [results,Tryz.results9,go_sem,zS,g0,g1,g2,T,g4,g5,g6,g7,g8,g9,ad,ac,ae,af]) rfl s.out.2.1
 by_cases k19:L=19
 ·subst k19
  go_upto_region 15 with fail
  refine wp_region_held_drew (S:=fun a=>a.cell? ⟨R,0,none⟩=some (.pointer (some ⟨h,0,none⟩))/\a.cell? ⟨R,1,none⟩=some (.slice p l.length c)/\(a.cell? ⟨Q,2,none⟩=some (.string J)/\a.cell? ⟨Q,3,none⟩=some (.string H))/\a.cell? ⟨Q,6,none⟩=some (.int .u64 I)/\a.cell? ⟨Q,1,none⟩=some (.int .i64 F)/\a.cell? ⟨Q,7,none⟩=some (.int .i64 t)) (by kernel_rfl) ab (fun hHeld=>?_)
  refine tkv 0 (.pointer (some ⟨R,0,none⟩)) hHeld ?_
  simp only [Act.put,sz]
  refine tkv 1 (.pointer (some ⟨R,0,none⟩)) hHeld ?_
  simp only [Act.put,sz]
  refine tkv 2 (.pointer (some ⟨R,0,none⟩)) hHeld ?_
  simp only [Act.put,sz]
  refine tkv 3 (.pointer (some ⟨h,0,none⟩)) hHeld ?_
  simp only [Act.put,sz]
  refine tkv 5 (.pointer (some ⟨R,0,none⟩)) hHeld ?_
  simp only [Act.put,sz]
  refine tkv 6 (.pointer (some ⟨R,0,none⟩)) hHeld ?_
  simp only [Act.put,sz]
  refine tkv 7 (.pointer (some ⟨R,0,none⟩)) hHeld ?_
  simp only [Act.put,sz]
  refine tkv 8 (.pointer (some ⟨h,0,none⟩)) hHeld ?_
  simp only [Act.put,sz]
  refine tkv 10 (.pointer (some ⟨R,0,none⟩)) hHeld ?_
  simp only [Act.put,sz]
  refine tkv 11 (.pointer (some ⟨R,0,none⟩)) hHeld ?_
  simp only [Act.put,sz]
  refine tkv 12 (.pointer (some ⟨R,0,none⟩)) hHeld ?_
  simp only [Act.put,sz]
  refine tkv 13 (.pointer (some ⟨h,0,none⟩)) hHeld ?_
  simp only [Act.put,sz]
  refine tkv 15 (.pointer (some ⟨R,0,none⟩)) hHeld ?_
  simp only [Act.put,sz]
  refine tkv 16 (.pointer (some ⟨R,0,none⟩)) hHeld ?_
  simp only [Act.put,sz]
  refine tkv 17 (.pointer (some ⟨R,0,none⟩)) hHeld ?_
  simp only [Act.put,sz]
  refine tkv 18 (.pointer (some ⟨h,0,none⟩)) hHeld ?_
  simp only [Act.put,sz]
  clear hHeld ab a0
  refine wpAnyH_ready (rs:=[4]) (by kernel_rfl) (by simp) ?_
  refine AllReadyH.cons (zB rfl) (fun K d=>?_) AllReadyH.nil
  rw [if_pos (by rfl)]
  go_simp
  refine (zCJ (HV.out.on (zG (Below.refl V.heap.size V) 1))).mono ?_
  rintro e0 u0 ⟨rfl,y0⟩
  have cv:=hid y0
  have hS:=ag.out _ _ _ _ _ y0 (Fr.refl _ _)
  clear y0
  refine d.out _ _ hS (fun hHeld=>?_)
  clear d K
  try simp only [Act.put,sz]
  clear hHeld hS
  refine wpAnyH_ready (rs:=[9]) (by kernel_rfl) (by simp) ?_
  refine AllReadyH.cons (zB rfl) (fun K d=>?_) AllReadyH.nil
  rw [if_pos (by rfl)]
  go_simp
  refine (zAi cv.out (by omega)).mono ?_
  rintro e1 u1 ⟨rfl,y1⟩
  have cx:=hid y1
  have hS:=ag.out _ _ _ _ _ y1 (Fr.refl _ _)
  clear y1
  refine d.out _ _ hS (fun hHeld=>?_)
  clear d K
  try simp only [Act.put,sz]
  clear hHeld hS
  refine wpAnyH_ready (rs:=[14]) (by kernel_rfl) (by simp) ?_
  refine AllReadyH.cons (zB rfl) (fun K d=>?_) AllReadyH.nil
  rw [if_pos (by rfl)]
  go_simp
  refine (zCn cx.out).mono ?_
  rintro e2 u2 ⟨rfl,y2⟩
  have db:=hid y2
  have hS:=ag.out _ _ _ _ _ y2 (Fr.refl _ _)
  clear y2
  refine d.out _ _ hS (fun hHeld=>?_)
  clear d K
  try simp only [Act.put,sz]
  clear hHeld hS
  refine wpAnyH_ready (rs:=[19]) (by kernel_rfl) (by simp) ?_
  refine AllReadyH.cons (zB rfl) (fun K d=>?_) AllReadyH.nil
  rw [if_pos (by rfl)]
  go_simp
  refine (kU db.out).mono ?_
  rintro e3 u3 ⟨rfl,y3⟩
  have dn:=hid y3
  have hS:=ag.out _ _ _ _ _ y3 (Fr.refl _ _)
  obtain ⟨B,w5,O,H5⟩:=zCB ai #[.int .i64 (zT r.S.D:Nat),.int .i64 (yW (xM r.S):Nat),.int .i64 (r.S.tk.kept.length:Nat)] y3
  obtain ⟨ak,m,M⟩:=H5.out
  obtain ⟨E,j,s,g0,g1,g2,T,g4,g5,g6,g7,g8,g9,ad,ac,ae,af⟩:=cJ (ot:={ st:=r.S.last,np:=some ⟨B,0,none⟩,nc:=3,ns:=[(zT r.S.D:Int),(yW (xM r.S):Int),(r.S.tk.kept.length:Int)] }) (P:=fun j=>nO N ZU (Y+1) h R gs RR w (.returned (.agg (zS { st:=r.S.last,np:=some ⟨B,0,none⟩,nc:=3,ns:=[(zT r.S.D:Int),(yW (xM r.S):Int),(r.S.tk.kept.length:Int)] }).toArray)) j) (zAz m.sto) (fun j f=>by rw [<-HR.out];exact zAa G.out HQ.out ai.out (ot:={ st:=r.S.last,np:=some ⟨B,0,none⟩,nc:=3,ns:=[(zT r.S.D:Int),(yW (xM r.S):Int),(r.S.tk.kept.length:Int)] }) M (m.mono (Nat.le_succ _)) (fun _ _ e=>e) f ({ yH B w5 with num:=zLk ak (Nat.le_refl _) }) rfl)
  have aj:=ag.out _ _ _ _ _ m.sto (Fr.refl _ _)
  have al:=ag.out _ _ _ _ _ m.sto s.out.2.2
  clear ak m M y3
  refine d.out _ _ hS (fun hHeld=>?_)
  clear d K
  try simp only [Act.put,sz]
  clear hHeld hS
  refine wpAnyH_ready (rs:=[20]) (by kernel_rfl) (by simp) ?_
  refine AllReadyH.cons (zB rfl) (fun K d=>?_) AllReadyH.nil
  rw [if_pos (by rfl)]
  go_simp
  go_wp2_with fail
  rw [O.out.1,O.out.2]
  refine d.out _ _ aj (fun hHeld=>?_)
  clear d K
  try simp only [Act.put,sz]
  clear aj
  refine tkv 21 (.agg #[.int .i64 0,.int .u64 0,.int .i64 0,.bool false,.slice none 0 0,.slice none 0 0,.slice none 0 0,.int .i64 0,.int .u64 r.S.last,.slice (some ⟨B,0,none⟩) 3 3,.bool false,.slice none 0 0,.slice none 0 0,.slice none 0 0]) hHeld ?_
  simp only [Act.put,sz]
  clear hHeld
  refine wpAnyH_ready (rs:=[22]) (by kernel_rfl) (by simp) ?_
  refine AllReadyH.cons (zB rfl) (fun K d=>?_) AllReadyH.nil
  rw [if_pos (by rfl)]
  refine wp_store_mid 52 _ _ rfl (Q+1) 0 (zS { st:=r.S.last,np:=some ⟨B,0,none⟩,nc:=3,ns:=[(zT r.S.D:Int),(yW (xM r.S):Int),(r.S.tk.kept.length:Int)] }).toArray rfl rfl E.out.1 Tryz.outSize E.out.2 ?_
  rw [s.out.1]
  refine d.out _ _ al (fun hHeld=>?_)
  clear d K
  try simp only [Act.put,sz]
  refine wpAnyH_done (by kernel_rfl) ?_ _
  clear hHeld al
  go_wp2_with fail
  exact bodyPost_ret (v:=.agg (zS { st:=r.S.last,np:=some ⟨B,0,none⟩,nc:=3,ns:=[(zT r.S.D:Int),(yW (xM r.S):Int),(r.S.tk.kept.length:Int)] }).toArray) (by simp [results,Tryz.results9,go_sem,zS,g0,g1,g2,T,g4,g5,g6,g7,g8,g9,ad,ac,ae,af]) rfl s.out.2.1
 obtain ⟨BB,bn⟩:∃BB,decide (F<0∨(l.length:Int)<=F)=BB:=⟨_,rfl⟩
 have bb:=hid bn
 clear bn
 have b1:(L==1)=false:=by simpa using k1
 have dp:(L==16)=false:=by simpa using k16
 have dm:(L==17)=false:=by simpa using k17
 have dq:(L==18)=false:=by simpa using k18
 have dk:(L==19)=false:=by simpa using k19
 go_upto_region 16 with fail
 go_cut [110] from 98 to 110 (fun vb wx=>vb=.bool BB/\V.drew=wx)
 case first =>
  refine wp_region_held_drew (S:=fun a=>a.cell? ⟨R,0,none⟩=some (.pointer (some ⟨h,0,none⟩))/\a.cell? ⟨R,1,none⟩=some (.slice p l.length c)/\(a.cell? ⟨Q,2,none⟩=some (.string J)/\a.cell? ⟨Q,3,none⟩=some (.string H))/\a.cell? ⟨Q,6,none⟩=some (.int .u64 I)/\a.cell? ⟨Q,1,none⟩=some (.int .i64 F)/\a.cell? ⟨Q,7,none⟩=some (.int .i64 t)) (by kernel_rfl) ab (fun hHeld=>?_)
  by_cases h0:F<0
  ·have hd:decide (F<0)=true:=decide_eq_true h0
   have hb:BB=true:=by rw [<-bb.out];exact decide_eq_true (Or.inl h0)
   subst hb
   refine tkv 0 (.pointer (some ⟨Q,1,none⟩)) hHeld ?_
   simp only [Act.put,sz]
   refine tkv 1 (.int .i64 F) hHeld ?_
   simp only [Act.put,sz]
   refine tkv 2 (.bool true) hHeld ?_
   simp only [Act.put,sz]
   refine tkv 3 (.bool true) hHeld ?_
   simp only [Act.put,sz]
   refine qD (i:=4) rfl (by kernel_rfl) (by kernel_rfl) (by kernel_rfl) (fun _ _ _ h=>h) (by rfl) hHeld ?_
   simp only [Act.put,sz]
   refine qD (i:=5) rfl (by kernel_rfl) (by kernel_rfl) (by kernel_rfl) (fun _ _ _ h=>h) (by rfl) hHeld ?_
   simp only [Act.put,sz]
   refine qD (i:=6) rfl (by kernel_rfl) (by kernel_rfl) (by kernel_rfl) (fun _ _ _ h=>h) (by rfl) hHeld ?_
   simp only [Act.put,sz]
   refine qD (i:=7) rfl (by kernel_rfl) (by kernel_rfl) (by kernel_rfl) (fun _ _ _ h=>h) (by rfl) hHeld ?_
   simp only [Act.put,sz]
   refine qD (i:=8) rfl (by kernel_rfl) (by kernel_rfl) (by kernel_rfl) (fun _ _ _ h=>h) (by rfl) hHeld ?_
   simp only [Act.put,sz]
   refine qD (i:=9) rfl (by kernel_rfl) (by kernel_rfl) (by kernel_rfl) (fun _ _ _ h=>h) (by rfl) hHeld ?_
   simp only [Act.put,sz]
   refine qD (i:=10) rfl (by kernel_rfl) (by kernel_rfl) (by kernel_rfl) (fun _ _ _ h=>h) (by rfl) hHeld ?_
   simp only [Act.put,sz]
   refine qD (i:=11) rfl (by kernel_rfl) (by kernel_rfl) (by kernel_rfl) (fun _ _ _ h=>h) (by rfl) hHeld ?_
   simp only [Act.put,sz]
   refine tkv 12 (.bool true) hHeld ?_
   simp only [Act.put,sz]
   refine wpAnyH_done (by kernel_rfl) ?_ _
   go_wp2_with fail
   go_meet
   exact ⟨rfl,rfl⟩
  have hd:decide (F<0)=false:=decide_eq_false h0
  have hb:decide ((l.length:Int)<=F)=BB:=by rw [<-bb.out];exact decide_eq_decide.2 (by omega)
  refine tkv 0 (.pointer (some ⟨Q,1,none⟩)) hHeld ?_
  simp only [Act.put,sz]
  refine tkv 1 (.int .i64 F) hHeld ?_
  simp only [Act.put,sz]
  refine tkv 2 (.bool false) hHeld ?_
  simp only [Act.put,sz]
  refine tkv 3 (.bool false) hHeld ?_
  simp only [Act.put,sz]
  refine tkv 4 (.pointer (some ⟨Q,1,none⟩)) hHeld ?_
  simp only [Act.put,sz]
  refine tkv 5 (.int .i64 F) hHeld ?_
  simp only [Act.put,sz]
  refine tkv 6 (.pointer (some ⟨R,0,none⟩)) hHeld ?_
  simp only [Act.put,sz]
  refine tkv 7 (.pointer (some ⟨R,0,none⟩)) hHeld ?_
  simp only [Act.put,sz]
  refine tkv 8 (.pointer (some ⟨R,1,none⟩)) hHeld ?_
  simp only [Act.put,sz]
  refine tkv 9 (.slice p l.length c) hHeld ?_
  simp only [Act.put,sz]
  refine tkv 10 (.int .i64 l.length) hHeld ?_
  simp only [Act.put,sz]
  refine tkv 11 (.bool BB) hHeld ?_
  simp only [Act.put,sz]
  refine tkv 12 (.bool BB) hHeld ?_
  simp only [Act.put,sz]
  refine wpAnyH_done (by kernel_rfl) ?_ _
  go_wp2_with fail
  go_meet
  exact ⟨rfl,rfl⟩
 obtain ⟨rfl,bw⟩:=hcut
 rw [<-bw]
 clear bw ab a0
 by_cases hox:(F<0∨(l.length:Int)<=F)
 ·obtain rfl:true=BB:=by rw [<-bb.out];exact (decide_eq_true hox).symm
  have be:Sto N (doB Q C++Z) Y h gs r.S V.drew:=HV.out.on (zG (Below.refl V.heap.size V) 1)
  have m:=wS.of_sto be
  have M:V.heap.size<=V.drew.heap.size:=(zG (Below.refl V.heap.size V) 1).size
  have aw:Hid (({},⟨r.S,r.ids⟩)=RR):=hid (by
   rw [<-HR.out]
   unfold cU
   simp only [k1,k16,k17,k18,k19,if_false]
   by_cases h0:F<0
   ·rw [if_pos h0]
   have hl:=G.out.len
   rw [if_neg h0,List.getElem?_eq_none (by omega)])
  obtain ⟨E,j,s,g0,g1,g2,T,g4,g5,g6,g7,g8,g9,ad,ac,ae,af⟩:=cJ (ot:={}) (P:=fun j=>nO N ZU (Y+1) h R gs RR w (.returned (.agg (zS {}).toArray)) j) (zAz be) (fun j f=>by rw [<-aw.out];exact zAa G.out HQ.out ai.out (ot:={}) M (m.mono (Nat.le_succ _)) (fun _ _ e=>e) f (yH _ _) rfl)
  clear be m M hox
  generalize V.drew=W1 at *
  go_wp2_with (refine zN rfl 52 _ _ rfl (Q+1) 0 (zS {}).toArray rfl rfl E.out.1 Tryz.outSize E.out.2 j s.out.1 ?_)
  exact bodyPost_ret (v:=.agg (zS {}).toArray) (by simp [results,Tryz.results9,go_sem,zS,g0,g1,g2,T,g4,g5,g6,g7,g8,g9,ad,ac,ae,af]) rfl s.out.2.1
 obtain rfl:false=BB:=by rw [<-bb.out];exact (decide_eq_false hox).symm
 obtain ⟨U,rfl⟩:∃U:Nat,F=(U:Int):=⟨F.toNat,by omega⟩
 have da:U<l.length:=by omega
 obtain ⟨gg,b7,o7,ii,tx,cy,co,bz,cf,bu⟩:=G.out.pick da ⟨L,U,(J,H),vo.map Fx.fld,pt,I,t⟩ rfl ⟨k1,k16,k17,k18,k19⟩
 subst cy
 obtain ⟨CS,bj⟩:∃CS,nW r.S ii tx ⟨L,U,(J,H),vo.map Fx.fld,pt,I,t⟩=CS:=⟨_,rfl⟩
 have aw:Hid ((CS.1,⟨CS.2,r.ids⟩)=RR):=hid (by rw [<-HR.out,<-bj,bu])
 have ct:Hid (∀n,Calls Tryz.prog 11 #[.pointer (some ⟨gg,0,none⟩),.agg #[.int .i64 L,.int .i64 U,.string J,.string H,.slice vp vo.length vc,.slice pp pt.length pc,.int .u64 I,.int .i64 t]] (V.drewN n) fun e a=>zJM N (doB Q C++Z) (Y+1) h gs CS (V.drewN n) e a):=hid fun n=>by rw [<-bj];exact zBJ (HV.out.on (zG (Below.refl V.heap.size V) n)) hn bz cf ⟨L,U,J,H,vp,vc,vo,pp,pc,pt,I,t⟩ (HO.out.on (zG (Below.refl V.heap.size V) n))
 have dj:=hid co
 have HK:Hid (∀(u a:World) (nr':Nat) (gs':List Nat) (S':Sv),Sto N (doB Q C++Z) nr' h gs' S' u->Fr (fun b=>b=Q+1) u a->(a.cell? ⟨R,1,none⟩=some (.slice (some ⟨b7,o7,none⟩) l.length c)/\a.cell? ⟨b7,o7+U,none⟩=some (.pointer (some ⟨gg,0,none⟩))/\a.cell? ⟨Q,0,none⟩=some (.int .i64 L)/\a.cell? ⟨Q,1,none⟩=some (.int .i64 U)/\a.cell? ⟨Q,2,none⟩=some (.string J)/\a.cell? ⟨Q,3,none⟩=some (.string H)/\a.cell? ⟨Q,4,none⟩=some (.slice vp vo.length vc)/\a.cell? ⟨Q,5,none⟩=some (.slice pp pt.length pc)/\a.cell? ⟨Q,6,none⟩=some (.int .u64 I)/\a.cell? ⟨Q,7,none⟩=some (.int .i64 t))):=hid fun u a _ _ _ y f=>by
  obtain ⟨_,h1,_⟩:=ag.out _ _ _ _ _ y f
  have eQ:=y.got (k:=Q) (b:=.cells C 40 (0,0)) (by unfold doB;simp)
  obtain ⟨b,hb⟩:=(G.out.own b7 rfl).2.1
  have e7:=y.got (List.mem_append.2 (Or.inr hb))
  have h7:=G.out.olt (k:=b7) rfl
  have:=HQ.out
  have q:a.heap[Q]? = some (.cells #[.int .i64 L,.int .i64 U,.string J,.string H,.slice vp vo.length vc,.slice pp pt.length pc,.int .u64 I,.int .i64 t] 40 (0,0)):=by rw [f.block _ (Array.getElem?_eq_some_iff.1 eQ).1 (by omega),eQ,<-HC.out]
  refine ⟨h1,(World.cell?_of_block (((f.block _ (Array.getElem?_eq_some_iff.1 e7).1 (by omega)).trans e7).trans (G.out.sto.got hb).symm)).trans dj.out,?_,?_,?_,?_,?_,?_,?_,?_⟩<;>(rw [Lib.cell_of_heap q];rfl)
 have ab:=HK.out V.drew _ _ _ _ (HV.out.on (zG (Below.refl V.heap.size V) 1)) (Fr.refl _ _)
 clear co bz cf bu bj hox k1 k16 k17 k18 k19
 go_upto_region 18 with fail
 refine wp_region_held_drew (S:=fun a=>a.cell? ⟨R,1,none⟩=some (.slice (some ⟨b7,o7,none⟩) l.length c)/\a.cell? ⟨b7,o7+U,none⟩=some (.pointer (some ⟨gg,0,none⟩))/\a.cell? ⟨Q,0,none⟩=some (.int .i64 L)/\a.cell? ⟨Q,1,none⟩=some (.int .i64 U)/\a.cell? ⟨Q,2,none⟩=some (.string J)/\a.cell? ⟨Q,3,none⟩=some (.string H)/\a.cell? ⟨Q,4,none⟩=some (.slice vp vo.length vc)/\a.cell? ⟨Q,5,none⟩=some (.slice pp pt.length pc)/\a.cell? ⟨Q,6,none⟩=some (.int .u64 I)/\a.cell? ⟨Q,7,none⟩=some (.int .i64 t)) (by kernel_rfl) ab (fun hHeld=>?_)
 refine tkv 0 (.pointer (some ⟨R,0,none⟩)) hHeld ?_
 simp only [Act.put,sz]
 refine tkv 1 (.pointer (some ⟨R,0,none⟩)) hHeld ?_
 simp only [Act.put,sz]
 refine tkv 2 (.pointer (some ⟨R,1,none⟩)) hHeld ?_
 simp only [Act.put,sz]
 refine tkv 3 (.slice (some ⟨b7,o7,none⟩) l.length c) hHeld ?_
 simp only [Act.put,sz]
 refine tkv 4 (.pointer (some ⟨Q,1,none⟩)) hHeld ?_
 simp only [Act.put,sz]
 refine tkv 5 (.int .i64 U) hHeld ?_
 simp only [Act.put,sz]
 refine tkv 6 (.pointer (some ⟨b7,o7+U,none⟩)) hHeld ?_
 simp only [Act.put,sz]
 refine tkv 7 (.pointer (some ⟨gg,0,none⟩)) hHeld ?_
 simp only [Act.put,sz]
 refine tkv 8 (.agg #[.int .i64 L,.int .i64 U,.string J,.string H,.slice vp vo.length vc,.slice pp pt.length pc,.int .u64 I,.int .i64 t]) hHeld ?_
 simp only [Act.put,sz]
 clear hHeld ab
 refine wpAnyH_ready (rs:=[9]) (by kernel_rfl) (by simp) ?_
 refine AllReadyH.cons (zB rfl) (fun K d=>?_) AllReadyH.nil
 rw [if_pos (by rfl)]
 go_simp
 refine (ct.out 2).mono ?_
 rintro e5 w5 ⟨ot,A,w1,rfl,ce,hr,cm,m⟩
 have M:V.heap.size<=A:=Nat.le_trans (zG (Below.refl V.heap.size V) 2).size cm
 obtain ⟨E,j,s,g0,g1,g2,T,g4,g5,g6,g7,g8,g9,ad,ac,ae,af⟩:=cJ (ot:=ot) (P:=fun j=>nO N ZU (Y+1) h R gs RR w (.returned (.agg (zS ot).toArray)) j) (zAz m.sto) (fun j f=>by rw [<-aw.out];exact zAa G.out HQ.out ai.out (ot:=ot) M m (fun _ _ e=>e) f (ce) hr)
 have aj:=HK.out _ _ _ _ _ m.sto (Fr.refl _ _)
 have al:=HK.out _ _ _ _ _ m.sto s.out.2.2
 clear m ce hr cm M
 go_wp2_with fail
 refine d.out _ _ aj (fun hHeld=>?_)
 clear d K
 try simp only [Act.put,sz]
 clear hHeld aj
 refine wpAnyH_ready (rs:=[10]) (by kernel_rfl) (by simp) ?_
 refine AllReadyH.cons (zB rfl) (fun K d=>?_) AllReadyH.nil
 rw [if_pos (by rfl)]
 refine wp_store_mid 52 _ _ rfl (Q+1) 0 (zS ot).toArray rfl rfl E.out.1 Tryz.outSize E.out.2 ?_
 rw [s.out.1]
 refine d.out _ _ al (fun hHeld=>?_)
 clear d K
 try simp only [Act.put,sz]
 refine wpAnyH_done (by kernel_rfl) ?_ _
 clear hHeld al
 go_wp2_with fail
 exact bodyPost_ret (v:=.agg (zS ot).toArray) (by simp [results,Tryz.results9,go_sem,zS,g0,g1,g2,T,g4,g5,g6,g7,g8,g9,ad,ac,ae,af]) rfl s.out.2.1
end
section
open Go.RowKit
section
variable {W0 w w1:World} {nr h c i g:Nat} {Z:List (Nat × Obj)} {gs l:List Nat} {S:Sv} {p:Option Addr} {t:Tx}
theorem zL6 (x:Sto W0 Z nr h gs S w):∃R V,Hid (w.heap.size=R/\w.alloc (.cells #[.pointer (some ⟨h,0,none⟩),.slice none 0 0] 34)=V)/\Hid (kN W0 Z nr h R gs ⟨S,[]⟩ V):=by
 have b:Bw w (w.alloc (.cells #[jp h,sc none 0 0] 34)):=(Below.refl _ _).alloc (Nat.le_refl _) _;have e:=heap_alloc_new w (.cells #[jp h,sc none 0 0] 34);have y:=x.pins b [(w.z,.cells #[jp h,sc none 0 0] 34 (0,0))] fun p a=>by grind
 refine ⟨_,_,hid ⟨rfl,rfl⟩,hid ⟨_,sc none 0 0,[],y,fun p a=>List.mem_append.2 (Or.inr a),List.mem_append.2 (Or.inl (List.mem_singleton.2 rfl)),yQ.nil KTx y.bel y.bel.size,rfl,(fun j i hj=>by simp at hj),(fun k d=>by cases d),(fun p a=>?_),x.bel.size⟩⟩;have:=x.low a;omega
theorem zN0 (w:World) (o:Ov):∃B V W4,Hid (w.heap.size=B/\w.alloc (.cells #[.int .i64 0,.int .i64 0,.string ⟨#[]⟩,.string ⟨#[]⟩,.slice none 0 0,.slice none 0 0,.int .u64 0,.int .i64 0] 40)=V)/\Hid (V.there B 0 (xT o).toArray.size)/\Hid (V.setCells B 0 (xT o).toArray.toList=W4)/\Hid (W4.rangeAt B 0 (xT o)/\Below w.heap.size w W4/\Below w.heap.size w V):=by
 have a:Bw w (w.alloc (.cells #[ii 0,ii 0,tq ⟨#[]⟩,tq ⟨#[]⟩,sc none 0 0,sc none 0 0,iu 0,ii 0] 40)):=(Below.refl _ _).alloc (Nat.le_refl _) _;have b:=heap_alloc_new w (.cells #[ii 0,ii 0,tq ⟨#[]⟩,tq ⟨#[]⟩,sc none 0 0,sc none 0 0,iu 0,ii 0] 40);have d:(xT o).length=(#[ii 0,ii 0,tq ⟨#[]⟩,tq ⟨#[]⟩,sc none 0 0,sc none 0 0,iu 0,ii 0]:Array Value).size:=by rfl
 obtain ⟨e,f⟩:=uY b d rfl;exact ⟨_,_,_,hid ⟨rfl,rfl⟩,hid (wC (cs:=[ii 0,ii 0,tq ⟨#[]⟩,tq ⟨#[]⟩,sc none 0 0,sc none 0 0,iu 0,ii 0]) b).2,hid rfl,hid ⟨(wC e).1,a.trans (f.below a.size fun k j=>by omega),a⟩⟩
theorem zE3 (o:Ov):(xT o).toArray.all (·.oneCell')=true:=all_oneCell_toArray (KOv.one o)
theorem Tryz.opSize:(Tryz.prog.info? 40).map (·.size)=some 8:=by kernel_rfl
theorem zJ4 {l:List Ov} (h:KOv.Is w (.slice p l.length c) l) {i:Nat} (hi:i<l.length):∃b a,p=some ⟨b,a,none⟩/\w.rangeAt b (a+i * 8) (xT l[i]):=by
 obtain ⟨n,m,f,h⟩:=h;injection f with e1 _ _
 subst e1
 rcases h with h|⟨b,a,d,e⟩
 ·grind
 exact ⟨b,a,d,fun j v k=>e i hi j v k⟩
def zGK (w1:World) (nr h:Nat) (gs:List Nat) (S:Sv) (v:Value) (l:List Nat) (w:World):Prop :=
 ∃Z,Sto w1 Z nr h gs S w/\yQ KTx w1.heap.size w1 v l w/\∀k,v.ownBlock=some k->∃b,(k,b)∈Z
theorem kN.row {a:List (Nat × Obj)} {R:Nat} {r:Rn} (x:kN W0 a nr h R gs r w):∃p c l,w.cell? ⟨R,1,none⟩=some (.slice p l.length c)/\l.length=r.ids.length/\(∀j i:Nat,r.ids[j]? = some i->∃g:Nat,l[j]? = some g/\gs[i]? = some g)/\zGK W0 nr h gs r.S (.slice p l.length c) l w/\gs.length=r.S.txs.length:=by
 obtain ⟨Z,v,l,x⟩:=x;obtain ⟨p,c,rfl⟩:=x.shape;exact ⟨p,c,l,by rw [Lib.cell_of_heap x.cells];rfl,x.len,x.ids,⟨Z,x.sto,x.row,fun k b=>(x.own k b).2.1⟩,x.sto.len⟩
theorem zGK.give {v:Value} (x:zGK w1 nr h gs S v l w) (f:nr<=2000000000000) {i g:Nat} {t:Tx} (d:gs[i]? = some g) (j:S.txs[i]? = some t) :
  Calls Tryz.prog 19 #[.pointer (some ⟨g,0,none⟩)] w fun e b=>e=.returned (.bool (qT S i t).1)/\zGK w1 nr h gs (qT S i t).2 v l b:=by
 obtain ⟨Z,s,r,a⟩:=x;exact (zHU s f d j).mono fun e b q=>⟨q.1,Z,q.2,zCM r s q.2 a,a⟩
theorem zGK.row {n:Nat} (x:zGK w1 nr h gs S (.slice p n c) l w) {i:Nat} (hi:i<l.length):∃b a,p=some ⟨b,a,none⟩/\w.cell? ⟨b,a+i,none⟩=some (.pointer (some ⟨l[i],0,none⟩)):=by
 obtain ⟨_,_,r,_⟩:=x;obtain ⟨p',c',he,h⟩:=r.is;injection he with e1 _ _
 subst e1
 rcases h with h|⟨b,a,e,d⟩
 ·grind
 have:=d i hi 0 _ rfl
 grind [KTx]
theorem Sto.few (x:Sto W0 Z nr h gs S w) {i g:Nat} {t:Tx} (b:gs[i]? = some g) (d:S.txs[i]? = some t):(zD S.D t).length<=nr:=by
 obtain ⟨⟨c,⟨s,p,f,rfl,rfl,rfl⟩,q,k⟩,j⟩:=x;obtain ⟨y,hy,rfl,rfl⟩:=sF b d;have m:=f.room
 have e:∀(l:List Nat) (n:Nat),n∈l->n<=l.sum:=fun l=>by
  induction l with
  | nil=>grind
  | cons a l ih=>grind
 have r:=e (s.xs.map Px.load) y.load (List.mem_map.2 ⟨y,List.mem_of_getElem? hy,rfl⟩)
 have o:(zD s.sv.D y.tx).length=y.load:=by
  unfold zD Px.load;show (if y.ended=true then [] else _).length=_
  split
  ·rfl
  rw [List.length_map];rfl
 omega
end
end
section
open Go.RowKit
def zPa (w1:World) (ve:Int) (n nr h g:Nat) (w:World):Prop:=∃gs S t,Sto w1 [] nr h gs S w/\gs[n]? = some g/\MnS ve n S t
theorem zGy (w:World) (f M W G:Int) (h0:0<=G) (Y:G<=sA) (po:Option Addr) (co:Nat) (os:List Ov) (ho:KOv.Is w (.slice po os.length co) os) (bf:∀x∈os,zB7 w x) (cy:os.length<=1048576) (pm:Option Addr) (cm:Nat) (d:List Ov) (hm:KOv.Is w (.slice pm d.length cm) d) (bj:∀x∈d,zB7 w x) (dd:d.length<=1048576) :
  Calls Tryz.prog 5 #[.agg #[.int .i64 f,.int .i64 M,.int .i64 W,.int .u64 G],.slice po os.length co,.slice pm d.length cm] w fun e b=>e=.returned (.bool true)/\Below w.heap.size w b:=by
 obtain ⟨V,hV⟩:=eE (w.alloc (.cells #[ii f,ii M,ii W,iu G] 26));obtain ⟨N,hN⟩:=eE w.z;have au:V.heap[N]? = some (oc #[ii f,ii M,ii W,iu G] 26):=by rw [<-hV,<-hN];exact heap_alloc_new w _
 have bu:Bw w V:=by rw [<-hV];exact (Below.refl _ _).alloc (Nat.le_refl _) _
 have HV:=hid bu;have bo:=(gA au).1
 have bw:Hid (∀b,Bw V b->b.cell? (aa N 0)=some (ii f)/\b.cell? (aa N 1)=some (ii M)/\b.cell? (aa N 2)=some (ii W)/\b.cell? (aa N 3)=some (iu G)):=hid fun b hb=>by
  have q:=(hb.block N bo).trans au;refine ⟨?_,?_,?_,?_⟩<;>(rw [Lib.cell_of_heap q];rfl)
 have am:Hid (∀b,Bw w b->KOv.Is b (sc po os.length co) os/\(∀x∈os,zB7 b x)/\KOv.Is b (sc pm d.length cm) d/\∀x∈d,zB7 b x):=hid fun b hW=>⟨zC.is_kept ho hW,fun x s=>(bf x s).on hW,zC.is_kept hm hW,fun x s=>(bj x s).on hW⟩
 clear ho bf hm bj bu au bo;go_enter Tryz.func5,Tryz.ntmps5;go_upto_region 1 with fail
 (try rw [hV]);(try rw [hN]);clear hV hN;go_wp2_with fail;refine (zG5 V).mono ?_;rintro e k ⟨rfl,av⟩;have X:=hid av;obtain ⟨c0,c1,c2,c3⟩:=bw.o k av;clear av
 cases hr:sI f M W with
 | false =>
  have HN:=hid (zCw k f M W G h0 Y hr);clear hr;go_wp2_with fail;refine HN.o.mono ?_;rintro e w2 ⟨rfl,az⟩;have cl:=hid (zA HV.o HV.o.size (zA X.o X.o.size az));clear az;go_wp2_with fail;go_ret;exact ⟨rfl,cl.o⟩
 | true =>
 have ce:Hid (f<=4096):=hid (by grind [sI]);have bl:=hid (zJz k f M W G h0 Y hr);clear hr;go_wp2_with fail;refine bl.o.mono ?_;rintro e w2 ⟨h,rfl,bt⟩;obtain ⟨R,W3,E,HR0⟩:=zL6 bt;clear bt bl c0 c1 c2 c3;have F:Hid (∀b,Bw k b->Bw w b):=hid fun b q=>zA HV.o HV.o.size (zA X.o X.o.size q)
 go_upto_region 7 with fail
 rw [E.o.1,E.o.2];go_wp2_with fail
 go_loopg [36] os.length (fun gg vi wr=>∃(i:Nat) (U:List Nat) (r:Rn),vi=ii i/\i<=os.length/\os.length-i<=gg/\Hid (kN k [] i h R U r wr/\RnA f r/\r.ids.length<=i))
 case atStart=>exact ⟨0,[],_,rfl,by omega,by omega,HR0.o,⟨rfl,rfl⟩,Nat.le_refl _⟩
 clear HR0;obtain ⟨i,U,r,rfl,hi,ae,a⟩:=hrel
 by_cases hlt:i<os.length
 ·have y:(i:Int)<(os.length:Int):=by omega
  have ca:(0:Int)<=i:=by omega
  obtain ⟨b7,o7,rfl,ad⟩:=zJ4 (am.o wr (F.o wr a.o.1.bel)).1 hlt;have ac:=(am.o wr (F.o wr a.o.1.bel)).2.1 _ (List.getElem_mem hlt)
  generalize os[i]=o at *
  have ap:=hid ad;obtain ⟨B,V1,O,E,ag,ah,J⟩:=zN0 wr o;have al:=hid J.o.1;have ao:=hid (ac.on J.o.2.1);clear ad ac;have bq:=hid (zNg (a.o.1.on J.o.2.1) (by omega) (Nat.le_trans a.o.2.2 (by omega)) o ao.o);have cf:=hid (zNE a.o.2.1 o.op);have ct:=hid (Nat.le_trans (zP6 r o.op) (Nat.succ_le_succ a.o.2.2));clear a;go_wp2_with (first|(refine xL rfl 40 _ rfl b7 (o7+i * 8) rfl (xT o) _ ap.o Tryz.underlying40 rfl Tryz.opSize (.agg (xT o).toArray) rfl ?_)|(refine xL rfl 40 _ rfl B 0 rfl (xT o) _ al.o Tryz.underlying40 rfl Tryz.opSize (.agg (xT o).toArray) rfl ?_)|(refine zN rfl 40 _ _ rfl B 0 (xT o).toArray rfl rfl ag.o Tryz.opSize (zE3 o) O ah.o ?_)|(rw [E.o.1,E.o.2];refine zN rfl 40 _ _ rfl B 0 (xT o).toArray rfl rfl ag.o Tryz.opSize (zE3 o) O ah.o ?_));refine bq.o.mono ?_;rintro e w5 ⟨ot,A,w6,gs',rfl,_,_,_,_,hZ⟩;have v:=hid (hZ [] fun p hp=>by cases hp);clear hZ bq;go_wp2_with fail;go_roundg (os.length-(i+1))
  case measure=>omega
  exact ⟨i+1,gs',_,by go_num,by omega,by omega,v.o,cf.o,ct.o⟩
 have y:¬ (i:Int)<(os.length:Int):=by omega
 obtain rfl:i=os.length:=by omega
 obtain ⟨p,c,l,cp,ak,bn,ba,bs⟩:=a.o.1.row;obtain ⟨hve,hid0⟩:=a.o.2.1
 have cj:Hid (∀m,m<l.length->U[m]? = some (l.getD m 0)/\l[m]? = some (l.getD m 0)):=hid fun m hm=>by
  have h3:r.ids[m]? = some m:=by rw [hid0] at ak ⊢;rw [List.length_range] at ak;rw [List.getElem?_range (by omega)]
  obtain ⟨g,h4,h5⟩:=bn m m h3;have:l.getD m 0=g:=by rw [List.getD_eq_getElem?_getD,h4];rfl
  rw [this];exact ⟨h5,h4⟩
 have bm:Hid (r.S.txs.length=l.length):=hid (by rw [ak,hid0,List.length_range]);have cq:Hid (zGK k os.length h U r.S (sc p l.length c) l wr/\GvS f l.length 0 r.S):=hid ⟨ba,hve,bm.o,fun j t hj=>absurd hj (Nat.not_lt_zero j)⟩;have cr:Hid (l.length<=os.length):=hid (by rw [ak];exact a.o.2.2);have ck:Hid (U.length=l.length):=hid (bs.trans bm.o);clear bn ba bs hve hid0 ak a;go_wp2_with fail
 go_loopg [49] l.length (fun gg vi wr=>∃(m:Nat) (S:Sv),vi=ii m/\m<=l.length/\l.length-m<=gg/\Hid (zGK k os.length h U S (sc p l.length c) l wr/\GvS f l.length m S))
 case atStart=>grind
 clear cq hlt y hi ae cp;obtain ⟨m,S,rfl,hi,ae,a⟩:=hrel
 by_cases hlt:m<l.length
 ·have y:(m:Int)<(l.length:Int):=by omega
  have ca:(0:Int)<=m:=by omega
  obtain ⟨b8,o8,rfl,y0⟩:=a.o.1.row hlt;obtain ⟨t,ht⟩:∃t,S.txs[m]? = some t:=⟨_,List.getElem?_eq_getElem (by rw [a.o.2.len];exact hlt)⟩;have cw:=hid (a.o.2.give t hlt);have T:=hid (a.o.1.give (by omega) (cj.o m hlt).1 ht);have da:=hid hlt;have cx:m+1<=1048576:=by have:=cr.o;omega
  have e:l.getD m 0=l[m]:=by rw [List.getD_eq_getElem?_getD,List.getElem?_eq_getElem hlt];rfl
  rw [e] at T
  generalize l[m]=g at *
  clear a ht e;go_wp2_with fail;refine T.o.mono ?_;rintro e w5 ⟨rfl,af⟩;have v:=hid af;clear af T y0;go_wp2_with fail;go_roundg (l.length-(m+1))
  case measure=>omega
  exact ⟨m+1,_,by go_num,by omega,by omega,v.o,cw.o⟩
 have y:¬ (m:Int)<(l.length:Int):=by omega
 obtain rfl:m=l.length:=by omega
 obtain ⟨Z,s,_,_⟩:=a.o.1;have bg:Sto k [] os.length h U S wr:=s.sub fun q hq=>by cases hq
 have be:=hid (gC bg (by omega));have bi:=hid (MnS.start a.o.2);clear a s bg;go_wp2_with fail;refine be.o.mono ?_;rintro e w3 ⟨g,rfl,br⟩;have bh:Hid (zPa k f l.length (os.length+1) h g w3):=hid ⟨_,_,_,br,by rw [<-ck.o];simp,bi.o⟩;clear br be bi;go_wp2_with fail
 go_loopg [60] d.length (fun gg vi wr=>∃i:Nat,vi=ii i/\i<=d.length/\d.length-i<=gg/\Hid (zPa k f l.length (os.length+1+i) h g wr))
 case atStart=>exact ⟨0,rfl,by omega,by omega,bh.o⟩
 clear bh hlt y hi ae;obtain ⟨i,rfl,hi,ae,a⟩:=hrel
 by_cases hlt:i<d.length
 ·have y:(i:Int)<(d.length:Int):=by omega
  have ca:(0:Int)<=i:=by omega
  obtain ⟨ab,n,t,s,Q,L⟩:=a.o;obtain ⟨b7,o7,rfl,ad⟩:=zJ4 (am.o wr (F.o wr s.bel)).2.2.1 hlt;have ac:=(am.o wr (F.o wr s.bel)).2.2.2 _ (List.getElem_mem hlt)
  generalize d[i]=o at *
  have ap:=hid ad;obtain ⟨B,V1,O,E,ag,ah,J⟩:=zN0 wr o;have al:=hid J.o.1;have ao:=hid (ac.on J.o.2.1);clear ad ac;have C:=hid (s.on J.o.2.1);have ai:=hid Q;have H:=hid L;have bv:Hid (zPa k f l.length (os.length+1+(i+1)) h g O):=hid ⟨ab,n,t,C.o.mono (by omega),Q,L⟩;have y0:O.cell? (aa B 0)=some (ii o.kind):=by have:=al.o 0 _ rfl;simpa using this
  clear a s Q L;go_upto_region 21 with (first|(refine xL rfl 40 _ rfl b7 (o7+i * 8) rfl (xT o) _ ap.o Tryz.underlying40 rfl Tryz.opSize (.agg (xT o).toArray) rfl ?_)|(refine zN rfl 40 _ _ rfl B 0 (xT o).toArray rfl rfl ag.o Tryz.opSize (zE3 o) O ah.o ?_)|(rw [E.o.1,E.o.2];refine zN rfl 40 _ _ rfl B 0 (xT o).toArray rfl rfl ag.o Tryz.opSize (zE3 o) O ah.o ?_))
  by_cases P:2<=o.kind/\o.kind<=11
  ·obtain ⟨k2,cv⟩:=P;obtain ⟨t',hmn'⟩:=H.o.step o.op k2 cv;have cu:=hid hmn';have bc:=hid (zBJ C.o (by omega) ai.o H.o.tx o ao.o);clear hmn';go_wp2_with (refine xL rfl 40 _ rfl B 0 rfl (xT o) _ al.o Tryz.underlying40 rfl Tryz.opSize (.agg (xT o).toArray) rfl ?_);refine bc.o.mono ?_;rintro e w5 ⟨ot,A,w6,rfl,_,_,_,hT⟩;have v:Hid (zPa k f l.length (os.length+1+(i+1)) h g w5):=hid ⟨ab,_,t',hT.sto,ai.o,cu.o⟩;clear hT bc;go_wp2_with fail;go_roundg (d.length-(i+1))
   case measure=>omega
   exact ⟨i+1,by go_num,by omega,by omega,v.o⟩
  have cg:o.kind<2∨11<o.kind:=by omega
  clear P
  rcases cg with P|P
  ·have hb:¬ 2<=o.kind:=by omega
   go_wp2_with fail
   go_roundg (d.length-(i+1))
   case measure=>omega
   exact ⟨i+1,by go_num,by omega,by omega,bv.o⟩
  have hb:2<=o.kind:=by omega
  have az:¬ o.kind<=11:=by omega
  go_wp2_with fail
  go_roundg (d.length-(i+1))
  case measure=>omega
  exact ⟨i+1,by go_num,by omega,by omega,bv.o⟩
 have y:¬ (i:Int)<(d.length:Int):=by omega
 obtain rfl:i=d.length:=by omega
 obtain ⟨ab,n,t,s,Q,L⟩:=a.o;have ar:=hid (bF s (by omega) Q L.tx);have ai:=hid Q;have H:=hid L;clear a s Q L y hlt hi ae;unfold jD at ar;go_wp2_with fail;refine ar.o.mono ?_;rintro e w4 ⟨⟨p4,c4,cs,rfl,hco,_,_,hch,_⟩,hT⟩;have C:=hid hT.sto;have T:Hid (cs.length=(zD n.D t).length):=hid (by rw [<-hch,List.length_map]);have db:cs.length<=2097153:=by have:=C.o.few ai.o H.o.tx;have:=T.o;omega
 have dc:zT n.D<=4096:=by have Y:=C.o.okS.cnt;have h2:=H.o.vers;have h3:=ce.o;omega
 clear hco hch hT ar;go_upto_region 25 with fail
 obtain ⟨FU,bp⟩:=eE (decide (f<(zT n.D:Int)+(cs.length:Int)));obtain ⟨SP,hSP⟩:=eE (n.last==18446744073709551615);have aw:Hid (∀{b:World} {nr:Nat},Sto k [] nr h ab n b->b.cell? (aa N 0)=some (ii f)):=fun x=>(bw.o _ (zA X.o X.o.size x.bel)).1
 have bk:=hid bp;have bb:=hid hSP;have bz:=aw.o (C.o.on (zG (Below.refl w4.z w4) 1))
 go_cut [18,19] from 79 to 88 (fun ci cc wx=>ci=.bool FU/\cc=.bool SP/\Hid (Sto k [] (os.length+1+d.length) h ab n wx))
 case first =>
  refine wp_region_held_drew (S:=fun b=>b.cell? (aa N 0)=some (ii f)) (by kernel_rfl) bz (fun hHeld=>?_);have v:Hid (Sto k [] (os.length+1+d.length) h ab n w4.drew):=hid (C.o.on (zG (Below.refl w4.z w4) 1))
  generalize w4.drew=u0 at *
  have de:IntKind.i64.wrap ((zT n.D:Nat)+(cs.length:Nat):Int)=((zT n.D:Nat)+(cs.length:Nat):Int):=by rw [IntKind.wrap_i64];omega
  refine tkv 0 (jp h) hHeld ?_;simp only [Act.put,sz];refine tkv 2 (ii cs.length) hHeld ?_;simp only [Act.put,sz];refine tkv 4 (jp N) hHeld ?_;simp only [Act.put,sz];refine tkv 5 (ii f) hHeld ?_;simp only [Act.put,sz];refine tkv 7 (jp h) hHeld ?_;simp only [Act.put,sz];clear hHeld bz;refine wpAnyH_ready (rs:=[1]) (by kernel_rfl) (by simp) ?_;refine AllReadyH.cons (zB rfl) (fun K hK=>?_) AllReadyH.nil;rw [if_pos (by rfl)]
  go_simp
  refine (zAi v.o (by omega)).mono ?_;rintro e u1 ⟨rfl,af⟩;have ax:=hid af;clear af;refine hK.out _ _ (aw.o ax.o) (fun hHeld=>?_);clear hK K
  try simp only [Act.put,sz]
  refine tkv 3 (ii ((zT n.D:Nat)+(cs.length:Nat):Int)) hHeld ?_;simp only [Act.put,sz];refine tkv 6 (.bool FU) hHeld ?_;simp only [Act.put,sz];clear hHeld;refine wpAnyH_ready (rs:=[8]) (by kernel_rfl) (by simp) ?_;refine AllReadyH.cons (zB rfl) (fun K hK=>?_) AllReadyH.nil;rw [if_pos (by rfl)]
  go_simp
  refine (zCJ ax.o).mono ?_;rintro e u2 ⟨rfl,u⟩;have cb:=hid u;clear u ax;refine hK.out _ _ (aw.o cb.o) (fun hHeld=>?_);clear hK K
  try simp only [Act.put,sz]
  refine tkv 9 (.bool SP) hHeld ?_;simp only [Act.put,sz];refine tkv 10 (.bool FU) hHeld ?_;simp only [Act.put,sz];refine tkv 11 (.bool SP) hHeld ?_;simp only [Act.put,sz];refine wpAnyH_done (by kernel_rfl) ?_ _;clear hHeld;go_wp2_with fail;go_meet;exact ⟨rfl,rfl,cb.o⟩
 obtain ⟨rfl,rfl,v⟩:=hcut;have aj:=hid (mM v.o (by omega) ai.o H.o.tx);obtain ⟨hcd1,hcd2⟩:=H.o.commit v.o.okS;have ay:zD n.D t≠[]↔cs.length≠0:=by rw [T.o];exact not_congr List.length_eq_zero_iff.symm
 simp only [ay,<-T.o] at hcd1;rw [ay] at hcd2
 generalize yB n l.length t=CM at *
 have aq:=hid hcd2;obtain ⟨⟨st,cd⟩,S5⟩:=CM;simp only at hcd1 aq aj;clear ay hcd2 bp hSP C
 by_cases hn:cs.length=0
 ·have e:cd=0:=by rw [hcd1,if_neg (fun q=>q.1 hn),if_neg (fun q=>q.1 hn)]
  subst e;clear hcd1;go_wp2_with fail;refine aj.o.mono ?_;rintro e w6 ⟨rfl,u⟩;have I:=hid (F.o _ u.bel);clear u;go_wp2_with fail;go_ret;exact ⟨rfl,I.o⟩
 cases FU with
 | true =>
  have e:cd=9:=by rw [hcd1,if_pos ⟨hn,of_decide_eq_true bk.o⟩]
  subst e;clear hcd1;go_wp2_with fail;refine aj.o.mono ?_;rintro e w6 ⟨rfl,u⟩;have I:=hid (F.o _ u.bel);clear u;go_wp2_with fail;go_ret;exact ⟨rfl,I.o⟩
 | false =>
 have an:=of_decide_eq_false bk.o
 cases SP with
 | true =>
  have e:cd=10:=by rw [hcd1,if_neg (fun q=>an q.2),if_pos ⟨hn,by have:=bb.o;simpa [sA] using this⟩]
  subst e;clear hcd1 an;go_wp2_with fail;refine aj.o.mono ?_;rintro e w6 ⟨rfl,u⟩;have I:=hid (F.o _ u.bel);clear u;go_wp2_with fail;go_ret;exact ⟨rfl,I.o⟩
 | false =>
 have e:cd=0:=by rw [hcd1,if_neg (fun q=>an q.2),if_neg (fun q=>by have Y:=bb.o;rw [q.2] at Y;exact absurd Y (by decide))]
 subst e;obtain ⟨hq,P⟩:=aq.o rfl hn;have cn:=hid hq;have ch:=hid P;clear hcd1 an hq P aq;go_wp2_with fail;refine aj.o.mono ?_;rintro e w6 ⟨rfl,u⟩;have bx:=hid (zCn u);rw [cn.o] at bx;clear u;go_wp2_with fail;refine bx.o.mono ?_;rintro e w7 ⟨rfl,hx7⟩;have bd:=hid (kU hx7);rw [ch.o] at bd;clear hx7;go_wp2_with fail;refine bd.o.mono ?_;rintro e w8 ⟨rfl,hx8⟩;have I:=hid (F.o _ hx8.bel);clear hx8;go_wp2_with fail;go_ret;exact ⟨rfl,I.o⟩
end
section
theorem zM {a b:Bool} (d:a=true) (c:b=true):(a&&b)=true:=by rw [d,c];rfl
theorem zAF:(Rows.storeAloneUptoRow.wf (OpenSpec.ofChange (Rows.OpenSpec.upto Rows.storeAloneSpec).bare))=true:=by kernel_rfl
theorem zAL:(laidOutB Tryz.pinned.checked.prog)=true:=by kernel_rfl
theorem cW:(mapsRowed Tryz.pinned.checked.prog)=true:=by kernel_rfl
theorem zAC:(Tryz.f5.params.all (Tryz.pinned.checked.prog.readableRec ·))=true:=by kernel_rfl
theorem bV:(namedTie Tryz.pinned.checked.prog Rows.storeAloneUptoRow.named (Rows.OpenSpec.upto Rows.storeAloneSpec).bare.vars)=true:=by kernel_rfl
theorem cT:((Rows.storeAloneUptoRow.stops==[]))=true:=by kernel_rfl
theorem cQ:((Tryz.pinned.checked.prog.stops==[]))=true:=by kernel_rfl
theorem zAO:((Rows.storeAloneUptoRow.knobs==[]))=true:=by kernel_rfl
theorem cX:((Tryz.pinned.checked.prog.stopKnobs==[]))=true:=by kernel_rfl
theorem bS:((Rows.storeAloneUptoRow.inPlace==Tryz.pinned.checked.prog.inPlace 5))=true:=by kernel_rfl
theorem dP:((Rows.storeAloneUptoRow.unfollowed==Tryz.pinned.checked.prog.unfollowed 5))=true:=by kernel_rfl
theorem cC:((Rows.storeAloneUptoRow.recurses==Tryz.pinned.checked.prog.recurses 5))=true:=by kernel_rfl
theorem fV:((Rows.storeAloneUptoRow.named==Tryz.pinned.checked.prog.varsNamed 5))=true:=by kernel_rfl
theorem dR:((Rows.storeAloneUptoRow.maps==(Tryz.f5.params.toList++(Rows.OpenSpec.upto Rows.storeAloneSpec).bare.plain.varTypes Tryz.pinned.checked.prog).any (Tryz.pinned.checked.prog.mapsRec ·)))=true:=by kernel_rfl
theorem dW:((Rows.storeAloneUptoRow.ifaces==(Tryz.f5.params.toList++(Rows.OpenSpec.upto Rows.storeAloneSpec).bare.plain.varTypes Tryz.pinned.checked.prog).any (Tryz.pinned.checked.prog.ifacesRec ·)))=true:=by kernel_rfl
theorem cF:((Rows.storeAloneUptoRow.mapsOut==Tryz.pinned.checked.prog.mapsAmong Tryz.f5.resultTypes.toList))=true:=by kernel_rfl
theorem cA:((Rows.storeAloneUptoRow.loops==(Tryz.f5.params.toList++(Rows.OpenSpec.upto Rows.storeAloneSpec).bare.plain.varTypes Tryz.pinned.checked.prog).any (Tryz.pinned.checked.prog.loopsFrom ·)))=true:=by kernel_rfl
theorem dT:((Rows.storeAloneUptoRow.wideKeys==(Tryz.f5.params.toList++(Rows.OpenSpec.upto Rows.storeAloneSpec).bare.plain.varTypes Tryz.pinned.checked.prog++Tryz.f5.resultTypes.toList).any (Tryz.pinned.checked.prog.wideKeysFrom ·)))=true:=by kernel_rfl
theorem dM:((Rows.OpenSpec.upto Rows.storeAloneSpec).bare.vars.all (Tryz.pinned.checked.prog.varReadable ·))=true:=by kernel_rfl
theorem fU:(Tryz.f5.resultTypes.all (fun t=>Tryz.pinned.checked.prog.readableRec t&&decide (t<Tryz.pinned.checked.prog.types.size)))=true:=by kernel_rfl
theorem fR:((Rows.storeAloneUptoRow.ifacesOut==Tryz.f5.resultTypes.toList.any (Tryz.pinned.checked.prog.ifacesRec ·)))=true:=by kernel_rfl
theorem dH:((Rows.storeAloneUptoRow.loopsOut==Tryz.f5.resultTypes.toList.any (Tryz.pinned.checked.prog.loopsFrom ·)))=true:=by kernel_rfl
theorem dY:((Rows.storeAloneUptoRow.plainKeys==Tryz.pinned.checked.prog.plainKeys))=true:=by kernel_rfl
theorem dQ:(Rows.storeAloneUptoRow.shortTexts.isNone)=true:=by kernel_rfl
theorem dO:(Tryz.pinned.checked.prog.stopsHeard)=true:=by kernel_rfl
theorem fO:(Tryz.pinned.checked.prog.mayEnter)=true:=by kernel_rfl
theorem fT:((Rows.storeAloneUptoRow.lifted==Tryz.pinned.checked.prog.liftsFinal))=true:=by kernel_rfl
theorem dX:((Tryz.pinned.checked.prog.make==some Rows.storeAloneUptoRow.make))=true:=by kernel_rfl
theorem fW:((Rows.storeAloneUptoRow.kinds==(if Rows.storeAloneUptoRow.domain.isEmpty then [] else Tryz.f5.params.toList.map fun t=>match Tryz.pinned.checked.prog.underlying t with|some (.int k)=>some k|_=>none)))=true:=by kernel_rfl
theorem dF:((Rows.storeAloneUptoRow.pinned==Rows.storeAloneUptoRow.pinnedBy))=true:=by kernel_rfl
theorem fQ:((Rows.storeAloneUptoRow.veiled==(Tryz.f5.params.toList++(Rows.OpenSpec.upto Rows.storeAloneSpec).bare.plain.varTypes Tryz.pinned.checked.prog++Tryz.f5.resultTypes.toList).any (Tryz.pinned.checked.prog.veiledRec ·)))=true:=by kernel_rfl
theorem dK:(Rows.storeAloneUptoRow.veiledFits Tryz.pinned.checked.prog Tryz.f5.params.toList (Tryz.f5.params.toList++(Rows.OpenSpec.upto Rows.storeAloneSpec).bare.plain.varTypes Tryz.pinned.checked.prog++Tryz.f5.resultTypes.toList))=true:=by kernel_rfl
end
end Go.Proofs.YtkhljboeffhciaaGreat
