/- A part of the proof. -/
import Derived.Test.YtkhljboeffhciaaGreatPc
import Derived.Laws.CopyRow
import Derived.Laws.IdiomCopy
import Derived.Lib.Overlaps
import Derived.Deep.RegionLaw
import Derived.Laws.LoneSync
import Derived.Lib.MinMax
set_option maxHeartbeats 40000000
set_option maxRecDepth 100000
set_option linter.unusedSimpArgs false
open Go.RowKit Go.Proofs.Tryz
namespace Go.Proofs.YtkhljboeffhciaaGreat
theorem zGL:∀args w,(callFunc 263 args).run prog w=.ok (.enter 263 args) w:=xaR func263 (by kernel_rfl) rfl
theorem zEr:∀args w,(callFunc 212 args).run prog w=.ok (.enter 212 args) w:=xaR func212 (by kernel_rfl) rfl
theorem zMt (c:Cx) (x:Rx) (M:Nat) (w:World) (g:w.heap[M]? = some (.cells (xW c).toArray 67 (0,0))) (j:CIn w c) (l:x.at w):CC 263 #[.agg (yQ x).toArray,.pointer (some ⟨M,0,none⟩)] w fun e n=>e=.returned (.bool (uX x.rg c.ch))/\Below w.heap.size w n:=by
 obtain ⟨b,d,p⟩:=tV w (yQ x).toArray 124;obtain ⟨V,hV⟩:=eE (w.alloc (.cells (yQ x).toArray 124));rw [hV] at b d p;have k:M<w.heap.size:=(gA g).1;have a:=(b.block M k).trans g;have i:=hid (zDZ x c V (l.on b) (j.on b));have h:=hid b
 generalize uX x.rg c.ch=R at *
 obtain ⟨K,f⟩:=eE w.heap.size;rw [f] at d;obtain ⟨xt,xp,xc,xm⟩:=x;obtain ⟨ca,cb,wl,wp,wc,wo,il,ip,ic,io⟩:=c;simp only [yQ,xW,Rx.sl] at *;have t:V.cell? (aa K 0)=some (tq xt):=cz d;have z:V.cell? (aa K 1)=some (sc xp xm.length xc):=cz d;have y:V.cell? (aa M 0)=some (tq ca):=cz a;have q:V.cell? (aa M 1)=some (tq cb):=cz a;have s:V.cell? (aa M 2)=some (.bool wl):=cz a;have u:V.cell? (aa M 3)=some (sc wp wo.length wc):=cz a;have v:V.cell? (aa M 4)=some (.bool il):=cz a;have r:V.cell? (aa M 5)=some (sc ip io.length ic):=cz a;go_enter func263,ntmps263;go_wp2_with fail;(try rw [hV]);(try rw [f]);refine i.o.mono ?_;rintro e w1 ⟨rfl,hb1⟩;have m:=hid (zA h.o h.o.size hb1);go_wp2_with fail;go_ret;exact ⟨rfl,m.o⟩
theorem zIy (m:Mx) (c:Cx) (w:World) (s:MIn w m) (z:zPa m) (G:CIn w c):CC 213 #[.agg (xE m).toArray,.agg (xW c).toArray] w fun e v=>e=.returned (.bool (zD5 m.mk' c.ch))/\Below w.heap.size w v:=by
 obtain ⟨g,p,n,D⟩:=vP w (xE m).toArray (xW c).toArray 49 67;obtain ⟨V,hV⟩:=eE ((w.alloc (.cells (xE m).toArray 49)).alloc (.cells (xW c).toArray 67));obtain ⟨M,hM⟩:=eE w.heap.size;rw [hV] at g p n D;rw [hM] at p n D;have K:=z.1;have L:=z.2;have t:=hid (zM0 m.ksl m.ks (c.a,c.b) V (s.on g).keys (by unfold maxLen;omega))
 have B:Hid (∀d,Bw V d->CC 204 #[m.rsl,.func (.func 263) #[] #[jp (M+1)]] d fun e v=>e=.returned (.bool (m.rs.any fun r=>uX r.rg c.ch))/\Bw d v):=fun d f =>
  bT (fun r=>uX r.rg c.ch) _ _ zGL _ m.rs d ((s.on g).on f).rows (by omega) (fun W x y J=>zMt c x (M+1) W (((zA f f.size y).block (M+1) (by omega)).trans n) ((G.on g).on (zA f f.size y)) ((((s.on g).on (zA f f.size y))).each x J))
 have k:=hid g
 have u:Hid (∀d:World,Bw V d->(d.cell? (aa M 0)=some m.ksl/\d.cell? (aa M 1)=some m.rsl)/\d.cell? (aa (M+1) 0)=some (tq c.a)/\d.cell? (aa (M+1) 1)=some (tq c.b)):=fun d f=>by
  have C:=(f.block M (by omega)).trans p;have A:=(f.block (M+1) (by omega)).trans n;exact ⟨⟨by rw [zaC C];rfl,by rw [zaC C];rfl⟩,by rw [zaC A];rfl,by rw [zaC A];rfl⟩
 have H:Hid (∀i B2,(m.ks.any fun x=>decide (x=(c.a,c.b)))=i->(m.rs.any fun r=>uX r.rg c.ch)=B2->zD5 m.mk' c.ch=(i||B2)):=by
  rintro _ _ rfl rfl;unfold zD5 Mx.mk';rw [List.any_map];rfl
 obtain ⟨i,E⟩:=eE ((m.ks.any fun x=>decide (x=(c.a,c.b))));obtain ⟨B2,hB2⟩:=eE (m.rs.any fun r=>uX r.rg c.ch);have q:=hid (H.o i B2 E hB2);rw [E] at t;rw [hB2] at B;obtain ⟨RR,hRR⟩:=eE (zD5 m.mk' c.ch);rw [hRR] at q ⊢;obtain ⟨⟨a0,a1⟩,b0,b1⟩:=u.o V (zaR _ _);obtain ⟨akp,akc,aks,arp,arc,ars⟩:=m;obtain ⟨ca,cb,wl,wp,wc,wo,il,ip,ic,io⟩:=c;simp only [xE,xW,Mx.ksl,Mx.rsl,xP] at *;go_enter func213,ntmps213
 cases i with
 | true =>
  go_wp2_with fail
  (try rw [hV]);refine t.o.mono ?_;rintro e j ⟨rfl,h⟩;obtain ⟨⟨a0,a1⟩,b0,b1⟩:=u.o j h;have l:=hid (zA k.o k.o.size h);go_wp2_with fail;go_ret;exact ⟨zH q.o.symm,l.o⟩
 | false =>
 go_wp2_with fail
 (try rw [hV]);refine t.o.mono ?_;rintro e j ⟨rfl,h⟩;obtain ⟨⟨a0,a1⟩,b0,b1⟩:=u.o j h;have F:=hid (B.o j h);have l:=hid (zA k.o k.o.size h);go_wp2_with fail;(try rw [hM]);refine F.o.mono ?_;rintro e w2 ⟨rfl,hb2⟩;have I:=hid (zA l.o l.o.size hb2);go_wp2_with fail;go_ret;exact ⟨zH (by rw [q.o];rfl),I.o⟩
theorem zK2 (m:Mx) (c:Cx) (M:Nat) (w:World) (f:w.heap[M]? = some (.cells (xE m).toArray 49 (0,0))) (n:MIn w m) (j:zPa m) (k:CIn w c):CC 212 #[.agg (xW c).toArray,.pointer (some ⟨M,0,none⟩)] w fun e q=>e=.returned (.bool (zD5 m.mk' c.ch))/\Below w.heap.size w q:=by
 obtain ⟨b,a,r⟩:=tV w (xW c).toArray 67;obtain ⟨V,hV⟩:=eE (w.alloc (.cells (xW c).toArray 67));rw [hV] at b a r;have l:M<w.heap.size:=(gA f).1;have h:=(b.block M l).trans f;have i:=hid (zIy m c V (n.on b) j (k.on b));have g:=hid b
 generalize zD5 m.mk' c.ch=R at *
 obtain ⟨K,d⟩:=eE w.heap.size;rw [d] at a;obtain ⟨akp,akc,aks,arp,arc,ars⟩:=m;obtain ⟨ca,cb,wl,wp,wc,wo,il,ip,ic,io⟩:=c;simp only [xE,xW,Mx.ksl,Mx.rsl] at *;have v:V.cell? (aa M 0)=some (sc akp aks.length akc):=cz h;have A:V.cell? (aa M 1)=some (sc arp ars.length arc):=cz h;have z:V.cell? (aa K 0)=some (tq ca):=cz a;have s:V.cell? (aa K 1)=some (tq cb):=cz a;have u:V.cell? (aa K 2)=some (.bool wl):=cz a;have x:V.cell? (aa K 3)=some (sc wp wo.length wc):=cz a;have y:V.cell? (aa K 4)=some (.bool il):=cz a;have t:V.cell? (aa K 5)=some (sc ip io.length ic):=cz a;go_enter func212,ntmps212;go_wp2_with fail;(try rw [hV]);(try rw [d]);refine i.o.mono ?_;rintro e w1 ⟨rfl,hb1⟩;have p:=hid (zA g.o g.o.size hb1);go_wp2_with fail;go_ret;exact ⟨rfl,p.o⟩
theorem zAF (m:Mx) (v:Value) (l:List Cx) (w:World) (r:MIn w m) (k:zPa m) (f:dX w v l) (z:l.length<1500000000000):CC 164 #[.agg (xE m).toArray,v] w fun e t=>zAA w (xD m.mk' (l.map Cx.ch)) e t:=by
 obtain ⟨b,c,j⟩:=tV w (xE m).toArray 49;obtain ⟨V,hV⟩:=eE (w.alloc (.cells (xE m).toArray 49));obtain ⟨M,hM⟩:=eE w.heap.size;rw [hV] at b c j;rw [hM] at c j;have g:=f.on b;have u:=hid (zDe (fun x=>zD5 m.mk' x.ch) 212 #[jp M] zEr v l V g.is (by omega) (fun W x d q=>zK2 m x M W ((d.block M (by omega)).trans c) ((r.on b).on d) k ((g.each x q).on d)));have n:Hid (l.any (fun x=>zD5 m.mk' x.ch)=xD m.mk' (l.map Cx.ch)):=by show _=_;unfold xD;rw [List.any_map];rfl
 have i:=hid b
 generalize l.any (fun x=>zD5 m.mk' x.ch)=R at *
 generalize xD m.mk' (l.map Cx.ch)=R2 at *
 obtain ⟨p,a,rfl⟩:∃p a,v=sc p l.length a:=by obtain ⟨p,a,h,_⟩:=f.is;exact ⟨p,a,h⟩
 obtain ⟨C,y,A,E,D,B⟩:=m;simp only [xE,Mx.ksl,Mx.rsl] at *;go_enter func164,ntmps164;go_wp2_with fail;(try rw [hV]);(try rw [hM]);refine u.o.mono ?_;rintro e w1 ⟨rfl,hb1⟩;have s:=hid (zA i.o i.o.size hb1);go_wp2_with fail;go_ret;exact ⟨zH n.o,s.o⟩
theorem zQ0 {α:Type} {K:zC α} {w:World} {b:Nat} {d:List α} (h:K.At w b 0 d) (k:Nat):K.At w b (k * K.k) (d.drop k):=fun i hi j u a=>by
 rw [xaw] at hi;rw [xaT] at a;have:=h (k+i) (by omega) j u a
 grind
theorem zHn {n0:Nat} {W:World} {g:Nat} {t:Tk} {a:List Dx} {y:Value} {last:Int} (h:wU n0 W g t a y last) (s:Int):CC 163 #[.pointer (some ⟨g,0,none⟩),.int .u64 s] W fun e m=>(∃k u,e=.returned u/\zFr a s k/\KDx.Is m u (a.drop k))/\Below W.heap.size W m:=by
 have M:=hid (dY y a s W.drew (zC.is_kept (zC.own_is h.all) (zaR _ _).drew) (by have:=h.few;omega));have C:=h.all;obtain ⟨p,c,rfl⟩:=h.shape;have HH:=hid h;have B:Hid (∀V,Bw W V->V.cell? (aa g 1)=some (sc p a.length c)):=fun V v=>by rw [zaC (h.on v).obj];rfl
 have G:=B.o W (zaR _ _)
 have L:Hid ((p=none/\a.length=0/\c=0)∨∃d,p=some (aa d 0)/\a.length<=c/\∀V,Bw W V->KDx.At V d 0 a):=by
  rcases C.2 with ⟨n,z⟩|⟨d,Y,R,n,z,U,P,_⟩
  ·injection n with e1 e2 e3
   exact xac ⟨e1,z,e3⟩
  injection n with e1 e2 e3
  subst e1 e3;refine xaf ⟨d,rfl,P,fun V v=>?_⟩;obtain ⟨T,Z,N,f⟩:=zC.own_is (zC.own_on C v);injection N with e1 e2 e3
  rcases f with f|⟨b,X,j,f⟩
  ·intro i hi;rw [f] at hi
   cases hi
  rw [<-e1] at j;injection j with j
  injection j with hp1 hp2
  subst hp1 hp2;exact f
 go_enter func163,ntmps163
 go_wp2_with fail
 refine tkb (S:=fun m=>m.cell? (aa g 1)=some (sc p a.length c)) G fun hB=>?_;refine tkv4 0 1 2 3 (jp g) (jp g) (.pointer (some (aa g 1))) (sc p a.length c) hB ?_;simp only [Act.put,sz];refine tkv3 4 5 6 (jp g) (jp g) (.pointer (some (aa g 1))) hB ?_;simp only [Act.put,sz];refine tkv2 7 8 (sc p a.length c) (iu s) hB ?_;simp only [Act.put,sz];refine tkc 9 fun K I=>?_
 go_simp
 refine M.o.mono ?_;rintro e r ⟨⟨k,rfl,w⟩,O⟩;have D:Bw W r:=(zG (zaR _ _) 1).trans O;have q:=hid D;have F:=B.o r D;have x:=hid w;have ab:=w.1;go_wp2_with fail;refine I.out _ _ F (fun hB=>?_)
 try simp only [Act.put,sz]
 have af:(0:Int)<=k:=by omega
 have ac:(k:Int)<=(a.length:Int):=by omega
 rcases L.o with ⟨rfl,l,rfl⟩|⟨d,rfl,ae,Q⟩
 ·have H:k=0:=by omega
  subst H;rw [l] at hB ⊢;refine tkv2 10 11 (sc none 0 0) (sc none 0 0) hB ?_;simp only [Act.put,sz];refine tkd ?_;go_wp2_with fail;go_ret;refine ⟨⟨0,_,rfl,x.o,?_⟩,q.o⟩;rw [xbb l];exact zC.is_nil _ _
 obtain ⟨A,hA,E⟩:∃A:Addr,(if c=k then some ((aa d 0):Addr) else some (aa d (k * 6)))=some A/\Hid (k<a.length->A=(aa d (k * 6))):=by
  by_cases hh:c=k
  ·exact ⟨_,xae hh,fun l=>absurd l (by omega)⟩
  exact ⟨_,xag hh,fun _=>rfl⟩
 have ad:(a.length:Int)<=(c:Int):=by omega
 have J:=hid Q;refine tkv2 10 11 (sc (some A) (a.length-k) (c-k)) (sc (some A) (a.length-k) (c-k)) hB ?_;simp only [Act.put,sz];refine tkd ?_;go_wp2_with fail;go_ret;refine ⟨⟨k,sc (some A) (a.length-k) (c-k),rfl,x.o,some A,c-k,by rw [xaw],?_⟩,q.o⟩
 by_cases hkd:k<a.length
 ·rw [E.o hkd];exact xaf ⟨d,k * 6,rfl,zQ0 (J.o r q.o) k⟩
 exact xac (List.drop_eq_nil_of_le (by omega))
section
open Go.RowKit Go.Lib
theorem zAJ {P:Program} {ops:Array Oper} {o:Oper} {a:Act} {w:World} {K:Act->World->Prop} {Q:Exit->Act->World->Prop} {E:Prop}
  (hg:o.guard=none) (s x:Operand) (t t':TypeId) (hop:o.op=Op.call { callee:=Callee.builtin Builtin.append,args:=#[s,x],argTypes:=#[t,t'] })
  (v u:Value) (hs:a.eval s=v) (hx:a.eval x=u) {v':Value} {w':World} (hr:(Builtin.append_ #[t,t'] o.type #[v,u]).run P w=.ok v' w') (hK:K (a.put o.dst v') w'):if Region.wanted o (yielded ops a.tmps)=true then Oper.wp P o a w K Q else E:=by
 have b:Region.wanted o (yielded ops a.tmps)=true:=by simp [Region.wanted,hg]
 rw [xae b];unfold Oper.wp;simp [execOp,hop,resolve,invoke,builtin,hs,hx,hr,Result.andThen];exact hK
theorem zC.cells_drop {α:Type} (K:zC α) (d:List α) (k:Nat):K.cells (d.drop k)=(K.cells d).drop (k * K.k):=by
 by_cases hk:k<=d.length
 ·have e:K.cells d=K.cells (d.take k)++K.cells (d.drop k):=by rw [<-K.cells_append,xbZ]
  have c:(K.cells (d.take k)).length=k * K.k:=by rw [K.cells_len,xa2,Nat.min_eq_left hk]
  grind
 have a:d.drop k=[]:=List.drop_of_length_le (by omega);have b:(K.cells d).drop (k * K.k)=[]:=List.drop_of_length_le (by rw [K.cells_len];exact xa1 _ (by omega));rw [a,b];rfl
theorem zC.own_block {α:Type} {K:zC α} {N g n a:Nat} {w:World} {o:List α} (h:K.Own N w (.slice (some ⟨g,0,none⟩) n a) o):o.length=n/\N<=g/\n<=a/\a<=maxLen/\∃b:Array Value,w.heap[g]? = some (.cells b K.T (0,0))/\b.size=a * K.k/\b.toList.take (n * K.k)=K.cells o:=by
 rcases h.2 with ⟨c,_⟩|⟨e,m,b,c,d,i,j,f,l,p⟩
 ·cases c
 grind
theorem zC.own_mk {α:Type} {K:zC α} {N g n a:Nat} {w:World} {o:List α} {b:Array Value} (f:o.length=n) (c:N<=g) (e:w.heap[g]? = some (.cells b K.T (0,0))) (h:n<=a) (d:a<=maxLen) (i:b.size=a * K.k) (j:b.toList.take (n * K.k)=K.cells o):K.Own N w (.slice (some ⟨g,0,none⟩) n a) o:=by
 subst f;exact ⟨K.cells_len o,xaf ⟨g,a,b,rfl,c,e,h,d,i,j⟩⟩
theorem zC.own_past13 {α:Type} {K:zC α} {N g n b:Nat} {o:List α} (a:List Value):∀(w:World) (p:Nat),K.Own N w (.slice (some ⟨g,0,none⟩) n b) o->o.length=n->n * K.k<=p->K.Own N (w.setCells g p a) (.slice (some ⟨g,0,none⟩) n b) o:=by
 induction a with
 | nil=>intro w p h _ _;exact h
 | cons v a ih =>
 intro w p h d e;rw [World.setCells];refine ih _ _ ?_ d (by omega);subst d;have c:=(xbc (show w.ownsRow N K.T K.k (sc (some (aa g 0)) o.length b) o.length (K.cells o) from h) p v).1;rw [xbl (by rw [K.cells_len];exact e)] at c;exact c
theorem zEl {g:Nat} (a:List Value):∀(w b:World) (p:Nat),b.grownBy w (some g)->b.grownBy (w.setCells g p a) (some g):=by
 induction a with
 | nil=>intro w b p h;exact h
 | cons v a ih=>grind [World.setCells,nO,xS]
theorem zHZ (w:World) (g:Nat) (cs:Array Value):w.grownBy (w.drew.setRow g cs) (some g):=⟨rfl,rfl,rfl,by simp [World.setRow],fun k _ a=>setRow_other w.drew g k _ (fun e=>a (by rw [e]))⟩
theorem zC.own_cut13 {α:Type} {K:zC α} {N g n a k:Nat} {w:World} {o:List α} {b:Array Value} (c:o.length=n) (d:N<=g) (f:w.heap[g]? = some (.cells b K.T (0,0))) (l:n<=a) (e:a<=maxLen) (h:b.size=a * K.k):K.Own N (w.setRow g (b.toList.take (0 * K.k)++K.cells (o.drop k)++b.toList.drop (0 * K.k+(K.cells (o.drop k)).length)).toArray) (.slice (some ⟨g,0,none⟩) (n-k) a) (o.drop k):=by
 have j:(K.cells (o.drop k)).length=(n-k) * K.k:=by rw [K.cells_len,xaw,c]
 have i:b.toList.length=a * K.k:=by rw [xaB,h]
 have m:(n-k) * K.k<=a * K.k:=xa1 _ (by omega);refine zC.own_mk (by rw [xaw,c]) d (setRow_heap w g b _ _ _ f) (by omega) e ?_ ?_
 ·grind
 grind
theorem zHk (w:World) (g o n:Nat) (s:0<n) (p:∀j,j<n * 6->(w.cell? ⟨g,o+j,none⟩).isSome=true) (q:∀j,j<n * 6->w.frozen? ⟨g,o+j,none⟩=false):∃a:List Value,∀f c,(Builtin.clear_ #[159] f #[.slice (some ⟨g,o,none⟩) n c]).run prog w=.ok (.tuple #[]) (w.setCells g o a):=by
 have l:∀w,(zeroValue 131).run prog w=.ok (.agg #[iu 0,iu 0,.bool false,sc none 0 0,sc none 0 0,sc none 0 0]) w:=zeroValue131;obtain ⟨a,d⟩:=eE ((Builtin.zeroCells (Value.agg #[iu 0,iu 0,.bool false,sc none 0 0,sc none 0 0,sc none 0 0]).cells n).toList);have r:a.length=n * 6:=by rw [<-d,xaB,size_zeroCells];rfl
 have h:∀v∈a,v.oneCell'=true:=by
  intro v b;rw [<-d] at b;simp only [Builtin.zeroCells,Array.toList_map,List.mem_map] at b;obtain ⟨i,_,rfl⟩:=b;have k:i % (Value.agg #[iu 0,iu 0,.bool false,sc none 0 0,sc none 0 0,sc none 0 0]).cells.size<6:=Nat.mod_lt _ (by decide);obtain ⟨m,b⟩:=eE (i % (Value.agg #[iu 0,iu 0,.bool false,sc none 0 0,sc none 0 0,sc none 0 0]).cells.size);rw [b] at k ⊢
  rcases (show m=0∨m=1∨m=2∨m=3∨m=4∨m=5 by omega) with rfl|rfl|rfl|rfl|rfl|rfl<;>rfl
 refine ⟨a,fun f c=>?_⟩;have e:=xb1 (P:=prog) g o a 0 w (by grind) (by grind) h;simp only [Nat.add_zero] at e;obtain ⟨m,rfl⟩:∃m,n=m+1:=⟨n-1,by omega⟩;simp [Builtin.clear_,run_underlying underlying159,l,d,e]
theorem zGx (N g n a k:Nat) (o:List Dx) (w:World) (h:KDx.Own N w (.slice (some ⟨g,0,none⟩) n a) o) (H:0<k) (T:k<=n):CC 169 #[.slice (some ⟨g,0,none⟩) n a,.int .i64 0,.int .i64 (k:Int)] w fun e y =>
   e=.returned (.slice (some ⟨g,0,none⟩) (n-k) a)/\KDx.Own N y (.slice (some ⟨g,0,none⟩) (n-k) a) (o.drop k)/\w.grownBy y (some g):=by
 obtain ⟨v,E,U,s,ae⟩:=xaL Tryz.infoDx13;obtain ⟨hn,hNg,D,hcm,cur,hg,hs,ht⟩:=zC.own_block h;have m:(KDx.cells (o.drop k)).length=(n-k) * v.size:=by rw [KDx.cells_len,xaw,hn,s];rfl
 obtain ⟨b,q⟩:=eE (KDx.cells (o.drop k))
 have Q:∀j u,b[j]? = some u->w.drew.cell? (((aa g (k * 6)):Addr).add j)=some u:=fun j u d=>by
  rw [addr_add];rw [<-q,KDx.cells_drop,List.getElem?_drop] at d;show w.cell? _=_;rw [cell_of_row w g _ cur _ _ hg,<-xbw]
  have hj:k * KDx.k+j<n * KDx.k:=by
   have:=(gL d).1
   rwa [KDx.cells_len,hn] at this
  rw [<-ht,xa8,xae hj] at d;exact d
 have F:∀u∈b,u.oneCell'=true:=by rw [<-q];exact KDx.cells_ones _
 have p:=zC.own_cut13 (K:=KDx) (w:=w.drew) (k:=k) hn hNg hg D hcm hs;rw [q] at m p
 have x:∀(A:Addr) (c:Nat) (i:TypeId),(k<n->A=(aa g (k * 6)))->(Builtin.append_ #[159,159] i #[sc (some (aa g 0)) 0 a,sc (some A) (n-k) c]).run prog w.drew =
   .ok (sc (some (aa g 0)) (n-k) a) (w.drew.setRow g (cur.toList.take (0 * KDx.k)++b++cur.toList.drop (0 * KDx.k+b.length)).toArray):=fun A c i B=>by
  have hsrc':∀j u,b[j]? = some u->w.drew.cell? (A.add j)=some u:=fun j u d=>by
   have hj:=(gL d).1;rw [m] at hj;have r:k<n:=Nat.lt_of_not_le fun e=>by rw [Nat.sub_eq_zero_of_le e] at hj;simp at hj
   rw [B r];exact Q j u d
  have:=run_append_room (P:=prog) w.drew 159 i 131 v underlying159 E g 0 a cur hg A (n-k) c b m hsrc' F (by omega) (by rw [m,s,hs];show 0 * 6+(n-k) * 6<=a * 6;omega);rw [xaJ,s] at this;exact this
 obtain ⟨f,t⟩:=eE (w.drew.setRow g (cur.toList.take (0 * KDx.k)++b++cur.toList.drop (0 * KDx.k+b.length)).toArray);rw [t] at x p;have I:w.grownBy f (some g):=by rw [<-t];exact zHZ w g _
 obtain ⟨_,_,_,_,C,z,L,_⟩:=zC.own_block p
 obtain ⟨l,Y⟩:∃l:List Value,∀i c,(Builtin.clear_ #[159] i #[sc (some (aa g ((n-k) * 6))) k c]).run prog f=.ok (.tuple #[]) (f.setCells g ((n-k) * 6) l):=by
  have hs1':C.size=a * 6:=L;refine zHk f g ((n-k) * 6) k H (fun j hj=>?_) fun j hj=>zaF z _
  rw [cell_of_row f g _ C _ _ z,xb8 (by omega)];rfl
 have M:=hid (zC.own_past13 l f ((n-k) * 6) p (by rw [xaw,hn]) (zaL _));have G:=hid (zEl l f w ((n-k) * 6) I);have O:=hid x;have R:prog.follows .mixedOrders=true:=by kernel_rfl
 obtain ⟨A,B,J⟩:∃A:Addr,(if a=k then some ((aa g 0):Addr) else some (aa g (k * 6)))=some A/\Hid (k<n->A=(aa g (k * 6))):=by
  by_cases hh:a=k
  ·exact ⟨_,xae hh,fun r=>absurd r (by omega)⟩
  exact ⟨_,xag hh,fun _=>rfl⟩
 have X:(0:Int)<=(k:Int):=by omega
 have W:(k:Int)<=(n:Int):=by omega
 have ab:(0:Int)<=(a:Int):=by omega
 have hnc':(n:Int)<=(a:Int):=by omega
 have ac:((0:Int)==(k:Int))=false:=by rw [xb4];omega
 have Z:n-(n-k)=k:=by omega
 have ad:((n-k:Nat):Int)<=(n:Int):=by omega
 have S:(0:Int)<=((n-k:Nat):Int):=by omega
 have V:¬ (a=n-k):=by omega
 go_enter func169,ntmps169
 go_wp2_with fail
 go_region_law_o (refine zAJ rfl (.tmp 22) (.tmp 25) 159 159 rfl (sc (some (aa g 0)) 0 a) (sc (some A) (n-k) (a-k)) (by simp [Act.eval,Act.put]) (by simp [Act.eval,Act.put]) (O.o A _ _ J.o) ?_)
 go_wp2_with fail
 go_ret;exact ⟨rfl,M.o,G.o⟩
end
section
variable {w:World} {cs:Array Value} {T:TypeId}
theorem zRY {k:Nat} {c:Array Value} {a:TypeId} {f b:Nat × Nat} (h:w.heap[k]? = some (.cells cs T f)) (d:w.heap[k]? = some (.cells c a b)) (e:T≠a):False:=by grind
theorem kG.typ {N:Nat} {x:Dx} (h:kG N w x) (k:Nat) (a:gE x k) {cs:Array Value} {T:TypeId} {f:Nat × Nat} (v:w.heap[k]? = some (.cells cs T f)) (j:T≠36/\T≠124/\T≠239/\T≠67/\T≠82/\T≠9):False:=by
 obtain ⟨l,n,t,s,y,p⟩:=j
 have hj:∀{u:Value} {o:List Fx},zW N w u o->nF u o k->False:=fun {u o} hx b=>by
  rcases b with b|⟨f,i,b⟩
  ·obtain ⟨d,q⟩:=zV hx.1.1 b
   grind
  obtain ⟨d,q⟩:=zV (show w.ownsRow N 9 1 f.sl f.txt.length (f.txt.map Value.string) from hx.1.2 f i) b
  grind
 rcases a with a|a|⟨r,g,a⟩|a|⟨c,e,a|a⟩
 ·obtain ⟨d,q⟩:=zV (show w.ownsRow N 36 KK.k x.m.ksl x.m.ks.length (KK.cells x.m.ks) from h.mrk.keys) a
  grind
 ·obtain ⟨d,q⟩:=zV (show w.ownsRow N 124 KRx.k x.m.rsl x.m.rs.length (KRx.cells x.m.rs) from h.mrk.rows) a
  grind
 ·obtain ⟨d,q⟩:=zV (show w.ownsRow N 239 KM.k r.sl r.tm.length (KM.cells r.tm) from (h.mrk.each r g).1) a
  grind
 ·obtain ⟨d,q⟩:=zV (show w.ownsRow N 67 KCx.k x.csl x.cs.length (KCx.cells x.cs) from h.row) a
  grind
 ·exact hj (h.each c e).was a
 exact hj (h.each c e).is a
end
section
variable {n0:Nat} {W:World} {g:Nat} {t:Tk} {ds:List Dx} {va:Value} {last:Int}
theorem wU.row_ne (h:wU n0 W g t ds va last) (k:Nat) (a:va.ownBlock=some k):k≠g:=fun e=>by
 subst e;obtain ⟨b,q⟩:=zV (show W.ownsRow n0 131 KDx.k va ds.length (KDx.cells ds) from h.all) a;exact zRY h.obj q (by decide)
theorem wU.each_ne (h:wU n0 W g t ds va last) {d:Dx} (a:d∈ds) (k:Nat) (b:gE d k):¬ (k=g∨va.ownBlock=some k):=fun e=>by
 rcases e with e|e
 ·subst e;exact (h.each d a).1.typ k b h.obj (by decide)
 obtain ⟨c,q⟩:=zV (show W.ownsRow n0 131 KDx.k va ds.length (KDx.cells ds) from h.all) e;exact (h.each d a).1.typ k b q (by decide)
theorem wU.each_fr {c:World} (h:wU n0 W g t ds va last) (f:Fr (fun b=>b=g∨va.ownBlock=some b) W c) {d:Dx} (a:d∈ds):QD.E n0 c d:=QD.fr (h.each d a) f fun k e=>h.each_ne a k e
theorem wU.set (h:wU n0 W g t ds va last) (j:Nat) (u:Value):KDx.Own n0 (W.setCell ⟨g,j,none⟩ u) va ds/\∀d∈ds,QD.E n0 (W.setCell ⟨g,j,none⟩ u) d:=by
 have f:=xB W g j u;exact ⟨f.row (show W.ownsRow n0 KDx.T KDx.k va ds.length (KDx.cells ds) from h.all) fun k a=>h.row_ne k a,fun d b=>QD.fr (h.each d b) f fun k a e=>h.each_ne b k a (xac e)⟩
end
def zBs (n0:Nat) (W:World) (g:Nat) (ds:List Dx) (va:Value) (t':Tk) (w':World):Prop:=∃ds' va' last',wU n0 w' g t' ds' va' last'/\Fr (kD g ds va) W w'/\∀k,kD g ds' va' k->kD g ds va k∨W.heap.size<=k
theorem zMC {n0:Nat} {W:World} {g:Nat} {t:Tk} {ds:List Dx} {va:Value} {last:Int} (h:wU n0 W g t ds va last) (s:Int):CC 116 #[.pointer (some ⟨g,0,none⟩),.int .u64 s] W fun e D=>e=.returned (.int .i64 ((t.kept.length:Int)-((uS t s).kept.length:Int)))/\zBs n0 W g ds va (uS t s) D:=by
 have H:=hid (zEP h)
 have J:Hid (∀V,Bw W V->CC 170 #[va,iu s] V fun e D=>(∃k:Nat,e=.returned (ii k)/\zFr ds s k)/\Bw V D):=fun V hV=>dY va ds s V (zC.own_is (h.on hV).all) (by have:=h.few;omega)
 have x:=h.all
 obtain ⟨p,c,rfl⟩:=h.shape
 have S:=hid h
 have E:Hid (∀k,zFr ds s k->((k:Int)=(t.kept.length:Int)-((uS t s).kept.length:Int))/\(uS t s).kept=t.kept.drop k):=fun k j=>by
  have X:=h.cut j
  have e:=X.kept t rfl
  refine ⟨?_,e⟩
  rw [e,xaw]
  have:=X.le
  omega
 have af:=h.few
 clear h
 go_enter func116,ntmps116
 go_wp2_with fail
 refine H.o.mono ?_
 rintro e w1 ⟨rfl,y⟩
 have I:=hid y
 have U:=hid (J.o w1 y)
 clear y J H
 go_wp2_with fail
 refine U.o.mono ?_
 rintro e m ⟨⟨k,rfl,j⟩,F⟩
 have i:Bw W m:=zA I.o I.o.size F
 obtain ⟨M,G⟩:=E.o k j
 have f:=S.o.on i
 have Q:=hid M
 have ab:=j.1
 have r:Hid (wU n0 m g t ds (sc p ds.length c) last/\Bw W m/\(uS t s).kept=(ds.drop k).map Dx.dn):=⟨f,i,by rw [G,<-S.o.kept,List.map_drop]⟩
 clear M G j F i U E
 by_cases hk0:k=0
 ·subst hk0
  clear f x
  go_wp2_with fail
  go_ret
  refine ⟨by rw [<-Q.o];rfl,ds,_,last,?_,Fr.of_below r.o.2.1,fun k j=>xac j⟩
  obtain ⟨q,_,q2⟩:=r.o
  exact ⟨q.obj,q.low,q.all,q.each,by rw [q2];rfl,q.hlast,q.lastb,q.sumb,zDB q.ok s,q.room⟩
 have ac:0<k:=by omega
 have ad:((k:Int) > 0):=by omega
 obtain ⟨a,rfl⟩:∃a,p=some (aa a 0):=by
  rcases x.2 with ⟨_,f⟩|⟨a,c1,ae,Y,_⟩
  ·omega
  injection Y with e1
  exact ⟨a,e1⟩
 clear x
 have K:=hid (zGx n0 a ds.length c k ds m f.all ac ab)
 have Z:m.cell? (aa g 1)=some (sc (some (aa a 0)) ds.length c):=by rw [zaC f.obj];rfl
 clear f
 go_wp2_with fail
 clear Z
 refine K.o.mono ?_
 rintro e l ⟨rfl,P,N⟩
 have f:=r.o.1
 have v:(Value.slice (some (aa a 0)) ds.length c).ownBlock=some a:=by
  unfold Value.ownBlock
  simp
 have L:g≠a:=fun e=>f.row_ne a v e.symm
 have z:Fr (fun b=>b=a) m l:=Fr.of_grown N fun k j=>by simpa using j.symm
 have u:l.heap[g]? = _:=(z.block g f.lt L).trans f.obj
 obtain ⟨n,B⟩:=eE (l.setCell (aa g 1) (sc (some (aa a 0)) (ds.length-k) c))
 have O:n.heap[g]? = some (oc #[ii (t.most:Nat),sc (some (aa a 0)) (ds.length-k) c,iu t.sum,iu last] 161):=by
  rw [<-B]
  exact xaa _ g 1 _ _ _ u
 have A:Fr (fun b=>b=g) l n:=by rw [<-B];exact xB l g 1 _
 have w:Fr (fun b=>b=g∨(Value.slice (some (aa a 0)) ds.length c).ownBlock=some b) m n :=
  (z.mono fun k j=>xaf (by rw [j];exact v)).then A fun k j=>xac (xac j)
 have R:KDx.Own n0 n (sc (some (aa a 0)) (ds.length-k) c) (ds.drop k) :=
  A.row (show l.ownsRow n0 KDx.T KDx.k (sc (some (aa a 0)) (ds.length-k) c) (ds.drop k).length (KDx.cells (ds.drop k)) from P) fun b i e=>by
   unfold Value.ownBlock at i
   simp at i
   omega
 have HF:Hid (zBs n0 W g ds (sc (some (aa a 0)) ds.length c) (uS t s) n):=by
  refine ⟨ds.drop k,_,last,⟨O,f.low,R,fun d C=>f.each_fr w (xaK C),r.o.2.2.symm,f.hlast,f.lastb,f.sumb,zDB f.ok s,f.room⟩,?_,fun b i=>xac ?_⟩
  ·exact (Fr.of_below r.o.2.1).then w fun b i=>xac (i.imp id xac)
  rcases i with i|i|⟨d,C,i⟩
  ·exact xac i
  ·refine xaf (xac ?_)
   rw [v]
   unfold Value.ownBlock at i
   simp at i
   rw [i]
  exact xaf (xaf ⟨d,xaK C,i⟩)
 have z1:l.cell? (aa g 1)=some (sc (some (aa a 0)) ds.length c):=cz u
 have y1:l.frozen? (aa g 1)=false:=zaF u 1
 clear f v L z u O A w R P N K
 go_wp2_with fail
 try rw [B]
 go_ret
 exact ⟨by rw [<-Q.o];rfl,HF.o⟩
section
variable {w w' W:World} {v va:Value} {d:Dn} {g n0:Nat} {t:Tk} {ds:List Dx} {last:Int}
def zQ4:Nat->Nat
 | 3=>1
 | 4=>2
 | 5=>2
 | 6=>3
 | _=>0
def zGG (n0:Nat) (W U:World) (g:Nat) (x:Dn) (ds:List Dx) (va:Value) (c:Array Value) (k:Nat) (fl:List Bool) (u e s p a1 a2:Value) (w:World):Prop:=(k=0/\w=U/\(fl[0]? = some true->u=va)) ∨
 (1<=k/\∃y w1,e=.agg (yN y).toArray/\(QD.E U.heap.size w1 y/\y.dn=x/\Below U.heap.size U w1)/\Pb KDx 131 n0 W y ds va g 1 c 161 w1 (zQ4 k) [fl.getD 0 false,decide (2<=k)] u s p w/\(3<=k->fl=[true])/\(4<=k->a1=.pointer (some ⟨g,0,none⟩))/\(5<=k->a2=.pointer (some ⟨g,1,none⟩)))
theorem zFP {α:Type} {K:zC α} {d:List α} (h:K.Is w v d) (a:∀x,∃s,(K.enc x)[0]? = some (.string s)) (l:∀j s,w.cell? ⟨g,j,none⟩≠some (.string s)) (f:Fr (fun b=>b=g) w w'):K.Is w' v d:=by
 obtain ⟨p,c,rfl,h⟩:=h;refine ⟨p,c,rfl,?_⟩
 rcases h with h|⟨b,m,k,h⟩
 ·grind
 by_cases h0:0<d.length
 ·refine xaf ⟨b,m,k,fun i hi j u n=>f.cell (h i hi j u n) fun e=>?_⟩;obtain ⟨s,a⟩:=a d[0];have e':b=g:=e;rw [e'] at h;exact l _ s (h 0 h0 0 _ a)
 grind
theorem zOZ {d:List Fx} (h:wH w v d) (m:∀j s,w.cell? ⟨g,j,none⟩≠some (.string s)) (f:Fr (fun b=>b=g) w w'):wH w' v d:=by
 obtain ⟨p,l,rfl,h,n⟩:=h;refine ⟨p,l,rfl,?_,fun x o=>?_⟩
 ·rcases h with h|⟨b,a,c,h⟩
  ·grind
  refine xaf ⟨b,a,c,fun i hi=>?_⟩
  have k:b≠g:=fun e=>by
   rw [e] at h;exact m _ _ (h i hi).1
  exact ⟨f.cell (h i hi).1 k,f.cell (h i hi).2 k⟩
 rcases n x o with h|⟨b,a,c,h⟩
 ·exact xac h
 refine xaf ⟨b,a,c,fun i hi=>f.cell (h i hi) fun e=>?_⟩
 grind
theorem DIn.off {i:World} {x:Dx} (h:DIn W x) (e:∀j s,W.cell? ⟨g,j,none⟩≠some (.string s)) (f:Fr (fun b=>b=g) W i):DIn i x:=⟨⟨zFP h.mrk.keys (fun _=>⟨_,rfl⟩) e f,zFP h.mrk.rows (fun _=>⟨_,rfl⟩) e f,fun r k=>⟨zFP (h.mrk.each r k).1 (fun _=>⟨_,rfl⟩) e f,(h.mrk.each r k).2⟩⟩,
  ⟨zFP h.chg.is (fun _=>⟨_,rfl⟩) e f,fun c a=>⟨zOZ (h.chg.each c a).was e f,(h.chg.each c a).wfit,zOZ (h.chg.each c a).is e f,(h.chg.each c a).ifit,(h.chg.each c a).wcp,(h.chg.each c a).icp⟩⟩,h.sz,h.snap,h.stamp⟩
theorem wU.nostr (h:wU n0 W g t ds va last):∀j s,W.cell? ⟨g,j,none⟩≠some (.string s):=fun j s e=>by
 obtain ⟨p,c,rfl⟩:=h.shape;rw [zaC h.obj] at e
 grind
theorem zIx (h:t.kept.length<t.most):sN t d=⟨t.most,t.kept++[d],some d.stamp,t.sum⟩:=by grind [sN]
theorem zIE (h:¬ t.kept.length<t.most) (s:Int) (hs:((t.kept++[d])[0]?).map Dn.stamp=some s):sN t d=⟨t.most,(t.kept++[d]).drop 1,some d.stamp,max t.sum s⟩:=by grind [sN]
def pN (n0:Nat) (W:World) (g:Nat) (t:Tk) (ds:List Dx) (va:Value) (x:Dn) (e:Ending) (w':World):Prop:=e=.returned (.int .i64 (nD t x).1)/\zBs n0 W g ds va (nD t x).2 w'
theorem zOF (hR:wU n0 W g t ds va last) (ep:n0<=W.heap.size) (x:Dx) (hx:DIn W x):CC 115 #[.pointer (some ⟨g,0,none⟩),.agg (yN x).toArray] W fun e w'=>pN n0 W g t ds va x.dn e w':=by
 obtain ⟨i0,cx,ct,cv,di⟩:=xaL Tryz.infoDx13;have em:=hid cx;obtain ⟨pa,ca,rfl⟩:=hR.shape;have hl:=hR.few;obtain ⟨M,hM⟩:=eE W.heap.size;obtain ⟨V,hV⟩:=eE (W.alloc (.cells (yN x).toArray 131));have bu:Bw W V:=by rw [<-hV];exact zaQ
 have bt:V.heap[M]? = some (oc (yN x).toArray 131):=by rw [<-hV,<-hM];exact xab W _
 have ab:=hR.on bu;have z3:V.cell? (aa g 3)=some (iu last):=by rw [zaC ab.obj];rfl
 have b1:V.cell? (aa M 1)=some (iu x.stamp):=cz bt
 have ai:Hid (zKk t x.dn=decide (x.stamp<last)):=by
  show _=_
  unfold zKk
  rcases hR.hlast with ⟨L,Y⟩|L
  ·rw [L,Y];have O:=hx.stamp.1
   grind
  rw [L];rfl
 have I:=hid hR;have HB:=hid bu;have bo:=hid bt;have HX:=hid hx;have dx:=hx.stamp;have fa:=hx.snap;have cg:Hid (OkT (nD t x.dn).2):=zKF hR.ok x.dn hx.stamp.1
 generalize hX:x.dn=X at ai cg ⊢
 have dl:X.stamp=x.stamp:=by rw [<-hX];rfl
 obtain ⟨xs,n,xo,⟨av,ax,ba,al,ak,ay⟩,ao,an,aj⟩:=x;have dw:=hid hX;have dd:=hid dl;simp only [yN,Mx.ksl,Mx.rsl,Dx.csl] at *;go_enter func115,ntmps115;go_upto_region 3 with fail
 (try rw [hV]);(try rw [hM]);have z3':V.drew.cell? (aa g 3)=some (iu last):=z3;have b1':V.drew.cell? (aa M 1)=some (iu n):=b1;refine tkb (S:=fun w'=>w'.cell? (aa g 3)=some (iu last)/\w'.cell? (aa M 1)=some (iu n)) ⟨z3',b1'⟩ fun v=>?_;refine tkv4 0 1 2 3 (.pointer (some (aa M 1))) (iu n) (jp g) (jp g) v ?_;simp only [Act.put,sz];refine tkv2 4 5 (.pointer (some (aa g 3))) (iu last) v ?_;simp only [Act.put,sz]
 by_cases hold:n<last
 ·rw [xas hold] at ai;refine tkv 6 (.bool true) v ?_;simp only [Act.put,sz];refine tkd ?_
  have HP:Hid (pN n0 W g t ds (sc pa ds.length ca) X (.returned (ii 8)) V.drew):=by
   have e:nD t X=(8,t):=by
    unfold nD;rw [ai.o,xae rfl]
   unfold pN;rw [e];exact ⟨rfl,ds,_,last,I.o.on HB.o.drew,Fr.of_below HB.o.drew,fun k c=>xac c⟩
  go_wp2_with fail
  go_ret;exact HP.o
 rw [xar hold] at ai;refine tkv 6 (.bool false) v ?_;simp only [Act.put,sz];refine tkd ?_
 have dz:Hid (nD t X=(0,sN t X)):=by
  show _=_
  unfold nD;rw [ai.o];rfl
 have ab:=I.o.on HB.o.drew;have z3':V.drew.cell? (aa g 3)=some (iu last):=z3;have y3:V.drew.frozen? (aa g 3)=false:=zaF ab.obj 3;obtain ⟨wc,aw⟩:=eE (V.drew.setCell (aa g 3) (iu n));have fb:g<M:=by rw [<-hM];exact I.o.lt
 have cj:wc.heap[g]? = some (oc #[ii (t.most:Nat),sc pa ds.length ca,iu t.sum,iu n] 161):=by
  rw [<-aw];exact xaa _ g 3 _ _ _ ab.obj
 have fc:Fr (fun b=>b=g) V.drew wc:=by rw [<-aw];exact xB V.drew g 3 _
 have bb:=ab.set 3 (iu n);rw [aw] at bb;have dc:=(fc.block M (gA bo.o).1 (by omega)).trans bo.o;have bp:Hid (Fr (fun b=>b=g) W wc):=(Fr.of_below HB.o.drew).then fc fun k c=>xac c
 have dm:∀b,(Value.slice pa ds.length ca).ownBlock=some b->n0<=b/\b<M/\b≠g:=fun b R=>by
  have L:=zaW (show W.ownsRow n0 KDx.T KDx.k (sc pa ds.length ca) ds.length (KDx.cells ds) from I.o.all) b R;exact ⟨L.1,by omega,I.o.row_ne b R⟩
 have bg:=hid dm;have bs:n0<=g:=I.o.low;obtain ⟨U,hU⟩:=eE wc.drew;have bh:=show wc.drew.heap[M]? = _ from dc
 rw [hU] at bh;have cs:M<U.heap.size:=(gA bh).1;have bm:Fr (fun b=>b=g) W U:=by rw [<-hU];exact bp.o.then (Fr.of_below (P:=fun _=>False) (zaR _ wc).drew) fun _ h=>h.elim
 have ff:M<=U.heap.size:=by rw [<-hM];exact bm.size
 have bw:=hid bm;have bn:=hid bh
 have bj:Hid (∀z,Bw U z->yG KDx n0 W (sc pa ds.length ca) ds z/\z.heap[g]? = some (oc #[ii (t.most:Nat),sc pa ds.length ca,iu t.sum,iu n] 161)):=fun z hw=>by
  rw [<-hU] at hw;have hw':Bw wc z:=(zaR _ wc).drew.trans hw;have co:Below n0 W z:=(bp.o.below ep fun k c=>by omega).trans (hw'.mono (by grind));exact ⟨⟨zC.own_on bb.1 hw',co,by have:=hw'.size;grind⟩,(hw'.block g (gA cj).1).trans cj⟩
 have ex:Hid (∀k N u e s p B r w',zGG n0 W U g X ds (sc pa ds.length ca) #[ii (t.most:Nat),sc pa ds.length ca,iu t.sum,iu n] k N u e s p B r w'->w'.heap[M]? = U.heap[M]?):=fun k N u e s p B r w' h=>by
  rcases h with ⟨_,rfl,_⟩|⟨_,y,z,_,⟨_,_,R⟩,G,_⟩
  ·rfl
  have f:=zRq G;refine (f.block M (by have:=R.size;omega) fun h=>?_).trans (R.block M cs)
  grind
 have cp:CC 168 #[.agg #[iu xs,iu n,.bool xo,sc av ba.length ax,sc al ay.length ak,sc ao aj.length an]] U fun e w'=>∃y:Dx,e=.returned (.agg (yN y).toArray)/\QD.E U.heap.size w' y/\y.dn=X/\Bw U w':=by
  have dt:DIn wc ⟨xs,n,xo,⟨av,ax,ba,al,ak,ay⟩,ao,an,aj⟩:=(HX.o.on HB.o.drew).off ab.nostr fc;rw [<-hU,<-dw.o];exact zMe _ _ (dt.on (zaR _ wc).drew)
 have ek:=hid cp;have fd:Hid (∀d∈ds,QD.E n0 wc d):=bb.2;go_upto_region 6 with fail
 (try rw [aw]);refine tkb (S:=fun w'=>w'.cell? (aa M 0)=some (iu xs)/\w'.cell? (aa M 1)=some (iu n)/\w'.cell? (aa M 2)=some (.bool xo)/\w'.cell? (aa M 3)=some (sc av ba.length ax)/\w'.cell? (aa M 4)=some (sc al ay.length ak)/\w'.cell? (aa M 5)=some (sc ao aj.length an)) (by rw [hU];have:=bn.o;refine ⟨?_,?_,?_,?_,?_,?_⟩<;>(rw [zaC this];rfl)) fun v=>?_;refine tkv3 0 1 2 (jp g) (jp g) (jp g) v ?_;simp only [Act.put,sz];refine tkv2 3 5 (.pointer (some (aa g 1))) (.agg #[iu xs,iu n,.bool xo,sc av ba.length ax,sc al ay.length ak,sc ao aj.length an]) v ?_;simp only [Act.put,sz];rw [hU];refine uR [6,7,8,9,10,11] [4] (fun a0 k N a w'=>∃u e s p B r,a=wL a0 [(23,u),(25,e),(26,s),(27,p),(28,B),(29,r)]/\zGG n0 W U g X ds (sc pa ds.length ca) #[ii (t.most:Nat),sc pa ds.length ca,iu t.sum,iu n] k N u e s p B r w') (by kernel_rfl) (by decide) ⟨_,_,_,_,_,_,(pI _ [23,25,26,27,28,29]).symm,xac ⟨rfl,rfl,fun h=>by cases h⟩⟩ ?hS ?hmain ?halloc ?hend
 case hS =>
  rintro k N a w' ⟨u,e,s,p,B,r,_,h⟩;have:=(ex.o _ _ _ _ _ _ _ _ _ h).trans bn.o;refine ⟨?_,?_,?_,?_,?_,?_⟩<;>(rw [zaC this];rfl)
 case hmain =>
  rintro k Z N a w' c bi ei ⟨u,e,s,p,B,r,rfl,ae⟩
  obtain ⟨C,rfl⟩:∃C,N=[C]:=by
   match N,bi with
   | [C],_=>grind
  rcases k with _|k
  ·obtain rfl:Z=6:=by grind
   obtain ⟨_,rfl,h4⟩:(0=0/\w'=U/\(([C]:List Bool)[0]? = some true->u=sc pa ds.length ca)):=ae.elim id fun h=>by omega
   have H4:=hid h4;refine ⟨_,zB rfl,fun K A=>?_⟩;simp only [wL,xal,xaq,Act.put,sz];rw [xae (by rfl)]
   go_simp
   refine ek.o.mono ?_;rintro e' w2 ⟨y,rfl,hy,ev,ad⟩
   have J:Hid (zGG n0 W w' g X ds (sc pa ds.length ca) #[ii (t.most:Nat),sc pa ds.length ca,iu t.sum,iu n] 1 [C] u (.agg (yN y).toArray) s p B r w2):=by
    refine xaf ⟨zaL _,y,w2,rfl,⟨hy,ev,ad⟩,?_,(fun h=>by omega),(fun h=>by omega),(fun h=>by omega)⟩;have O:=zO6 (x:=y) (T:=131) (f:=1) u s p (bj.o w2 ad).1 (bj.o w2 ad).2
    cases C with
    | false=>exact O
    | true =>
    obtain rfl:=H4.o rfl;exact (zKW O (by decide)).2
   obtain ⟨ys,yt,yo,⟨du,cw,de,cq,eg,da⟩,ey,dv,eo⟩:=y;simp only [yN,Mx.ksl,Mx.rsl,Dx.csl] at J ⊢;go_wp2_with fail;exact A.out _ _ ⟨u,_,s,p,B,r,rfl,J.o⟩
  obtain ⟨_,y,z,rfl,F,G,am,aq,bf⟩:=ae.resolve_left fun h=>by omega
  rcases k with _|_|_|_|_|k
  ·obtain rfl:Z=7:=by grind
   have J:Hid (zGG n0 W U g _ ds _ _ 2 [C] u _ (sc (some (aa w'.heap.size 0)) 1 1) p B r (w'.alloc (.cells (yN y).toArray 131))) :=
    xaf ⟨by omega,y,z,rfl,F,zRH G,(fun h=>by omega),(fun h=>by omega),(fun h=>by omega)⟩
   obtain ⟨ys,yt,yo,⟨du,cw,de,cq,eg,da⟩,ey,dv,eo⟩:=y;simp only [yN,Mx.ksl,Mx.rsl,Dx.csl] at J ⊢;refine ⟨_,zB rfl,fun K A=>?_⟩;simp only [wL,xal,xaq,Act.put,sz];rw [xae (by rfl)]
   go_simp
   go_wp2_with fail
   exact A.out _ _ ⟨u,_,_,p,B,r,rfl,J.o⟩
  ·obtain rfl:Z=8:=by grind
   cases C with
   | false=>exact (sP ei (by kernel_rfl)).elim
   | true =>
   obtain ⟨Z1,rfl,rfl,en,eq⟩:=zRN G;refine ⟨_,zB rfl,fun K A=>?_⟩;simp only [wL,xal,xaq,Act.put,sz];rw [xae (by rfl)];refine zKM KDx rfl _ _ 159 rfl i0 _ 96 underlying159 em.o ct cv di rfl n0 W (sc pa ds.length ca) ds (by rfl) eq y Z1 1 1 rfl (by rfl) 131 (0,0) en (by unfold maxLen;omega) (by omega) ?_;intro gg m l L Y h3;exact A.out _ _ ⟨_,_,_,_,B,r,rfl,xaf ⟨by omega,y,z,rfl,F,zQW G (fun b R=>(bg.o b R).2.2) L Y h3,(fun _=>rfl),(fun h=>by omega),(fun h=>by omega)⟩⟩
  ·obtain rfl:Z=9:=by grind
   have J:Hid (zGG n0 W U g _ ds _ _ 4 [C] u _ s p (jp g) r w') :=
    xaf ⟨by omega,y,z,rfl,F,zRk G,(fun _=>am (by omega)),(fun _=>rfl),(fun h=>by omega)⟩
   refine ⟨_,zB rfl,fun K A=>?_⟩;simp only [wL,xal,xaq,Act.put,sz];rw [xae (by rfl)]
   go_simp
   go_wp2_with fail
   exact A.out _ _ ⟨u,_,s,p,_,r,rfl,J.o⟩
  ·obtain rfl:Z=10:=by grind
   obtain rfl:=aq (by omega)
   have J:Hid (zGG n0 W U g _ ds _ _ 5 [C] u _ s p (jp g) (.pointer (some (aa g 1))) w') :=
    xaf ⟨by omega,y,z,rfl,F,G,(fun _=>am (by omega)),(fun _=>rfl),(fun _=>rfl)⟩
   refine ⟨_,zB rfl,fun K A=>?_⟩;simp only [wL,xal,xaq,Act.put,sz];rw [xae (by rfl)]
   go_simp
   go_wp2_with fail
   exact A.out _ _ ⟨u,_,s,p,_,_,rfl,J.o⟩
  ·obtain rfl:Z=11:=by grind
   obtain rfl:=aq (by omega);obtain rfl:=bf (by omega);have ea:g<z.heap.size:=by have:=F.2.2.size;omega
   obtain ⟨ad,eu⟩:=zNg G bs (zR5 G (by decide) (fun b R=>(bg.o b R).2.2) ea);obtain ⟨pp,m,rfl⟩:=zPA G (by decide)
   have J:Hid (zGG n0 W U g _ ds _ _ 6 [C] u _ s (sc pp (ds.length+1) m) (jp g) (.pointer (some (aa g 1))) (w'.setCell (aa g 1) (sc pp (ds.length+1) m))) :=
    xaf ⟨by omega,y,z,rfl,F,eu,(fun _=>am (by omega)),(fun _=>rfl),(fun _=>rfl)⟩
   have c0:w'.cell? (aa g 1)=some (sc pa ds.length ca):=cz ad;have z0:w'.frozen? (aa g 1)=false:=zaF ad 1;refine ⟨_,zB rfl,fun K A=>?_⟩;simp only [wL,xal,xaq,Act.put,sz];rw [xae (by rfl)]
   go_simp
   go_wp2_with fail
   exact A.out _ _ ⟨u,_,s,_,_,_,rfl,J.o⟩
  simp at c
 case halloc =>
  rintro j Z k N a w' hj c bi hf ⟨u,e,s,p,B,r,rfl,ae⟩
  obtain ⟨C,rfl⟩:∃C,N=[C]:=by
   match N,bi with
   | [C],_=>grind
  rcases j with _|j
  ·obtain rfl:Z=4:=by grind
   obtain rfl:C=false:=by grind
   have hN:w'.cell? (aa g 1)=some (sc pa ds.length ca)/\zGG n0 W U g X ds (sc pa ds.length ca) #[ii (t.most:Nat),sc pa ds.length ca,iu t.sum,iu n] k [true] (sc pa ds.length ca) e s p B r w':=by
    rcases ae with ⟨L,Y,_⟩|⟨L,y,z,Y,F,G,am,aq,bf⟩
    ·refine ⟨?_,xac ⟨L,Y,fun _=>rfl⟩⟩;rw [Y,zaC (bj.o U (zaR _ _)).2];rfl
    have dj:¬ 3<=k:=fun h=>by grind
    have cr:zQ4 k<=2:=by
     have:k=1∨k=2:=by omega
     rcases this with rfl|rfl<;>decide
    obtain ⟨q1,q2⟩:=zKW G cr;exact ⟨by rw [zaC q1];rfl,xaf ⟨L,y,z,Y,F,q2,(fun h=>absurd h dj),aq,bf⟩⟩
   have c0:=hN.1;have J:=hid hN.2;refine ⟨_,zB rfl,fun K A=>?_⟩;simp only [wL,xal,xaq,Act.put,sz];rw [xae (by rfl)]
   go_simp
   go_wp2_with fail
   exact A.out _ _ ⟨_,e,s,p,B,r,rfl,J.o⟩
  simp at hj
 rintro a l ⟨u,e,s,p,B,r,rfl,ae⟩;obtain ⟨_,y,z,rfl,F,G,_,_,_⟩:=ae.resolve_left fun h=>by grind
 obtain ⟨i,m,rfl⟩:=zKz G (by decide);obtain ⟨q1,q2,q3,q4⟩:=zQo G;have dp:W.heap.size<=U.heap.size:=bw.o.size;have et:Fr (fun b=>b=g) W z:=bw.o.then (Fr.of_below (P:=fun _=>False) F.2.2) fun _ h=>h.elim
 have ch:Fr (fun b=>b=g∨(Value.slice pa ds.length ca).ownBlock=some b) W l:=(et.mono fun k c=>xac c).then q3 fun k c=>xac c
 have fh:QD.E n0 l y:=QD.weak (QD.fr F.1 q3 fun k c e=>by
  have L:=(QD.blk F.1 k c).1
  rcases e with e|e
  ·omega
  have:=bg.o k e;omega) (by omega)
 have ah:∀d∈ds++[y],QD.E n0 l d:=fun d H=>by
  rcases List.mem_append.1 H with h|h
  ·exact I.o.each_fr ch h
  grind
 have ap:l.heap[g]? = some (oc #[ii (t.most:Nat),sc (some (aa i 0)) (ds.length+1) m,iu t.sum,iu n] 161):=q2;have au:KDx.Own n0 l (sc (some (aa i 0)) (ds.length+1) m) (ds++[y]):=q1.own;have ee:Hid (y.dn=X):=F.2.1;have dg:Hid (Fr (kD g ds (sc pa ds.length ca)) W l):=ch.mono fun k c=>c.elim xac fun h=>xaf (xac h)
 have cl:Hid ((Value.slice pa ds.length ca).ownBlock=some i∨W.heap.size<=i):=(q4 i (by unfold Value.ownBlock;simp)).imp id fun h=>by have:=F.2.2.size;omega
 have bd:Hid (∀k,gE y k->W.heap.size<=k):=fun k c=>zaU dp (QD.blk F.1 k c).1
 obtain ⟨D,hD⟩:=eE (ds++[y]);have cm:Hid (D.length=ds.length+1):=by show _=_;rw [<-hD];simp
 have bl:Hid (D.map Dx.dn=t.kept++[X]):=by
  show _=_
  rw [<-hD,xak,xaZ,List.map_nil,ee.o,I.o.kept]
 have ej:Hid (∀k,(∃d∈D,gE d k)->kD g ds (sc pa ds.length ca) k∨W.heap.size<=k):=by
  rintro k ⟨d,H,c⟩;rw [<-hD] at H
  rcases List.mem_append.1 H with h|h
  ·exact xac (xaf (xaf ⟨d,h,c⟩))
  rw [List.mem_singleton.1 h] at c;exact xaf (bd.o k c)
 rw [hD] at au ah
 have bz:i≠g:=fun e=>by
  subst e;obtain ⟨cy,q⟩:=zV (show l.ownsRow n0 131 KDx.k _ D.length (KDx.cells D) from au) (k:=i) (by unfold Value.ownBlock;simp)
  grind
 /- what is so of a world that is met behind: only the tracker's block and its row have fg -/
 have bv:Hid (∀(w':World) (t':Tk) (af:List Dx) (ag:Value),Fr (fun b=>b=g∨b=i) l w'->w'.heap[g]? = some (oc #[ii (t'.most:Nat),ag,iu t'.sum,iu n] 161)->KDx.Own n0 w' ag af->(∀d∈af,d∈D)->(∀k,ag.ownBlock=some k->k=i)->af.map Dx.dn=t'.kept->t'=sN t X->t'.sum<=18446744073709551615 ->
   pN n0 W g t ds (sc pa ds.length ca) X (.returned (ii 0)) w'):=fun w' t' af ag f ac ef az cu ec ht df=>by
  unfold pN;have be:=cg.o;rw [dz.o] at be ⊢;rw [<-ht] at be ⊢
  have dy:∀d∈af,QD.E n0 w' d:=fun d H=>QD.fr (ah d (az d H)) f fun k c e=>by
   rcases e with e|e
   ·subst e;exact (ah d (az d H)).1.typ k c ap (by decide)
   subst e;obtain ⟨cy,q⟩:=zV (show l.ownsRow n0 131 KDx.k _ D.length (KDx.cells D) from au) (k:=k) (by unfold Value.ownBlock;simp);exact (ah d (az d H)).1.typ k c q (by decide)
  refine ⟨rfl,af,ag,n,⟨ac,bs,ef,dy,ec,xaf (by rw [ht,<-show X.stamp=n from dd.o];exact zDD _ _),dx,df,be,by rw [ht,zCM];exact I.o.room⟩,?_,fun k c=>?_⟩
  ·refine dg.o.then f fun k c=>?_
   rcases c with c|c
   ·exact xac (xac c)
   rw [c];exact cl.o.imp (fun h=>xaf (xac h)) id
  rcases c with c|c|⟨d,H,c⟩
  ·exact xac (xac c)
  ·rw [cu k c];exact cl.o.imp (fun h=>xaf (xac h)) id
  exact ej.o k ⟨d,az d H,c⟩
 have bx:Hid (ds.length=t.kept.length):=I.o.len;have fe:=I.o.room;have bq:=hid I.o.sumb;have ez:=hid I.o.ok.sum.1
 have db:Hid (∃y0:Dx,D[0]? = some y0/\(0<=y0.stamp/\y0.stamp<=18446744073709551615)/\((t.kept++[X])[0]?).map Dn.stamp=some y0.stamp):=by
  have O:0<D.length:=by rw [cm.o];omega
  refine ⟨D[0],xai O,(ah _ (zaN O)).2.2.2,?_⟩;rw [<-bl.o,xby,xai O];rfl
 have ci:=hid au;have cf:=hid ap;have c1:l.drew.cell? (aa g 1)=some (sc (some (aa i 0)) (ds.length+1) m):=(zaC ap 1).trans rfl;have c0:l.drew.cell? (aa g 0)=some (ii (t.most:Nat)):=(zaC ap 0).trans rfl;simp only [wL,xal,xaq,Act.put,sz];go_upto_region 7 with fail
 refine tkb (S:=fun w'=>w'.cell? (aa g 1)=some (sc (some (aa i 0)) (ds.length+1) m)/\w'.cell? (aa g 0)=some (ii (t.most:Nat))) ⟨c1,c0⟩ fun v=>?_;refine tkv4 0 1 2 3 (jp g) (jp g) (.pointer (some (aa g 1))) (sc (some (aa i 0)) (ds.length+1) m) v ?_;simp only [Act.put,sz];refine tkv3 4 5 6 (ii ((ds.length:Int)+1)) (jp g) (jp g) v ?_;simp only [Act.put,sz];refine tkv2 7 8 (jp g) (ii (t.most:Nat)) v ?_;simp only [Act.put,sz]
 by_cases hfull:ds.length<t.most
 ·have es:¬ (t.most:Int)<((ds.length:Int)+1):=by omega
  have ew:¬ ((ds.length:Int)+1 > (t.most:Int)):=by omega
  refine tkv 9 (.bool false) v ?_;simp only [Act.put,sz];refine tkd ?_
  have HP:Hid (pN n0 W g t ds (sc pa ds.length ca) X (.returned (ii 0)) l.drew) :=
   bv.o l.drew ⟨t.most,t.kept++[X],some X.stamp,t.sum⟩ D _ (Fr.of_below (zaR _ l).drew) cf.o (zC.own_on ci.o (zaR _ l).drew) (fun d H=>H) (fun k c=>by grind [Value.ownBlock]) bl.o (zIx (by have:=bx.o;omega)).symm bq.o
  go_wp2_with fail
  go_ret;exact HP.o
 have es:(t.most:Int)<((ds.length:Int)+1):=by omega
 have ew:((ds.length:Int)+1 > (t.most:Int)):=by omega
 refine tkv 9 (.bool true) v ?_;simp only [Act.put,sz];refine tkd ?_;obtain ⟨y0,br,ce,cd⟩:=db.o;obtain ⟨st,hst9⟩:=eE y0.stamp;rw [hst9] at ce cd;have ac:=cf.o;have ck:=ci.o;have e1:l.drew.drew.cell? (aa g 1)=some (sc (some (aa i 0)) (ds.length+1) m):=(zaC ac 1).trans rfl;have e2:l.drew.drew.cell? (aa g 2)=some (iu t.sum):=(zaC ac 2).trans rfl;have y2:l.drew.drew.frozen? (aa g 2)=false:=zaF ac 2;have O:0<D.length:=by rw [cm.o];omega
 have e3:l.drew.drew.cell? (aa i 1)=some (iu st):=by
  have h9:=(zJ9 (zC.own_at ck) 0 O).2.1;rw [xai O] at br;rw [zaP br,hst9] at h9;exact h9
 obtain ⟨Q,ar⟩:=eE (l.drew.drew.setCell (aa g 2) (iu (max t.sum st)))
 have f5:Fr (fun b=>b=g) l Q:=by
  rw [<-ar];exact (Fr.of_below ((zaR _ l).drew.drew)).then (xB l.drew.drew g 2 _) fun k c=>xac c
 have cb:Q.heap[g]? = some (oc #[ii (t.most:Nat),sc (some (aa i 0)) (ds.length+1) m,iu (max t.sum st),iu n] 161):=by
  rw [<-ar];exact xaa _ g 2 _ _ _ ac
 have el:KDx.Own n0 Q (sc (some (aa i 0)) (ds.length+1) m) D:=f5.row (show l.ownsRow n0 KDx.T KDx.k _ D.length (KDx.cells D) from ck) fun k c e=>by grind [Value.ownBlock]
 have d1:Q.cell? (aa g 1)=some (sc (some (aa i 0)) (ds.length+1) m):=(zaC cb 1).trans rfl
 have d3:Q.cell? (aa i 1)=some (iu st):=by
  rw [<-ar];exact (xB l.drew.drew g 2 _).cell e3 bz
 have dq:Hid (CC 169 #[sc (some (aa i 0)) (ds.length+1) m,ii 0,ii 1] Q fun e w'=>e=.returned (sc (some (aa i 0)) ds.length m)/\KDx.Own n0 w' (sc (some (aa i 0)) ds.length m) (D.drop 1)/\Q.grownBy w' (some i)):=zGx n0 i (ds.length+1) m 1 D Q el (by omega) (by omega);have eb:=hid f5;have cn:=hid cb;have er:=hid cd;have bd:=hid ce;go_upto_region 8 with fail
 refine tkb (S:=fun w'=>w'.cell? (aa g 1)=some (sc (some (aa i 0)) (ds.length+1) m)/\w'.cell? (aa i 1)=some (iu st)) ⟨e1,e3⟩ fun v=>?_;refine tkv4 0 1 2 3 (jp g) (jp g) (jp g) (.pointer (some (aa g 2))) v ?_;simp only [Act.put,sz];refine tkv4 5 6 7 8 (jp g) (jp g) (.pointer (some (aa g 1))) (sc (some (aa i 0)) (ds.length+1) m) v ?_;simp only [Act.put,sz];refine tkv3 9 10 11 (jp i) (.pointer (some (aa i 1))) (iu st) v ?_;simp only [Act.put,sz];refine tkc 4 fun K A=>?_
 go_simp
 go_wp2_with fail
 refine A.out _ _ (⟨e1,e3⟩) (fun v=>?_)
 try simp only [Act.put,sz]
 refine tkv3 12 13 14 (iu (max t.sum st)) (jp g) (.pointer (some (aa g 2))) v ?_;simp only [Act.put,sz];refine tkc 15 fun K A=>?_
 go_simp
 go_wp2_with fail
 (try rw [ar]);refine A.out _ _ (⟨d1,d3⟩) (fun v=>?_)
 try simp only [Act.put,sz]
 refine tkd ?_;go_wp2_with fail;refine dq.o.mono ?_;rintro e w6 ⟨rfl,dh,eh⟩;have f6:Fr (fun b=>b=i) Q w6:=Fr.of_grown eh fun k c=>by grind
 have bc:=(f6.block g (gA cn.o).1 (Ne.symm bz)).trans cn.o;obtain ⟨w7,bk⟩:=eE (w6.setCell (aa g 1) (sc (some (aa i 0)) ds.length m))
 have dk:w7.heap[g]? = some (oc #[ii (t.most:Nat),sc (some (aa i 0)) ds.length m,iu (max t.sum st),iu n] 161):=by
  rw [<-bk];exact xaa _ g 1 _ _ _ bc
 have f7:Fr (fun b=>b=g) w6 w7:=by rw [<-bk];exact xB w6 g 1 _
 have ed:KDx.Own n0 w7 (sc (some (aa i 0)) ds.length m) (D.drop 1):=f7.row (show w6.ownsRow n0 KDx.T KDx.k _ (D.drop 1).length (KDx.cells (D.drop 1)) from dh) fun k c e=>by grind [Value.ownBlock]
 have HP:Hid (pN n0 W g t ds (sc pa ds.length ca) X (.returned (ii 0)) w7):=by
  refine bv.o w7 ⟨t.most,(t.kept++[X]).drop 1,some X.stamp,max t.sum st⟩ (D.drop 1) _ ?_ dk ed (fun d H=>xaK H) (fun k c=>by grind [Value.ownBlock]) (by rw [List.map_drop,bl.o]) (zIE (by have:=bx.o;omega) st er.o).symm (by have L:=bq.o;have Y:=bd.o.2;grind);exact ((eb.o.mono fun k c=>xac c).then f6 fun k c=>xac (xaf c)).then f7 fun k c=>xac (xac c)
 have z1:w6.cell? (aa g 1)=some (sc (some (aa i 0)) (ds.length+1) m):=(zaC bc 1).trans rfl;have y1:w6.frozen? (aa g 1)=false:=zaF bc 1;go_wp2_with fail;(try rw [bk]);go_ret;exact HP.o
end
theorem zJV {n0:Nat} {W:World} {g:Nat} {t:Tk} {B:List Dx} {va:Value} {last:Int} (h:wU n0 W g t B va last) (s:Int) (m:Mx) (v:Value) (cs:List Cx) (hm:MIn W m) (hc:dX W v cs) (O:SzD m cs):CC 111 #[.pointer (some ⟨g,0,none⟩),.int .u64 s,.agg (xE m).toArray,v] W fun e F=>e=.returned (.tuple #[.bool (yP t s m.mk' (cs.map Cx.ch)).1,.int .i64 (yP t s m.mk' (cs.map Cx.ch)).2])/\Below W.heap.size W F:=by
 obtain ⟨E,L,aj⟩:=tV W (xE m).toArray 49;obtain ⟨V,hV⟩:∃V,W.alloc (.cells (xE m).toArray 49)=V:=⟨_,rfl⟩;obtain ⟨M,hM⟩:∃M,W.heap.size=M:=⟨_,rfl⟩;rw [hV] at E L aj;rw [hM] at L aj;have bt:V.cell? (aa g 2)=some (iu t.sum):=by rw [zaC (h.on E).obj];rfl
 have bk:Hid (∀f,Below V.heap.size V f->f.cell? (aa M 0)=some m.ksl/\f.cell? (aa M 1)=some m.rsl):=fun f j=>by
  have e1:=(j.block M (by omega)).trans L;exact ⟨by rw [zaC e1];rfl,by rw [zaC e1];rfl⟩
 have bc:=hid (zHn (h.on E) s);have HB:=hid E
 have ae:∃p c,v=sc p cs.length c:=by
  obtain ⟨p,c,e,_⟩:=hc.is;exact ⟨p,c,e⟩
 by_cases hlow:s<t.sum
 ·have HR:=hid (zL9 m.mk' (cs.map Cx.ch) hlow);obtain ⟨X,Y,rfl⟩:=ae;obtain ⟨aw,bh,bn,be,ba,bi⟩:=m;simp only [xE,Mx.ksl,Mx.rsl] at *;go_enter func111,ntmps111;go_wp2_with fail;(try rw [hV])
  go_ret2
  exact ⟨by rw [HR.out];rfl,HB.out⟩
 have HT:Hid (∀k,zFr B s k->zAo t.kept s k/\(B.drop k).map Dx.dn=t.kept.drop k):=fun k J=>⟨h.cut J,by rw [<-h.kept,List.map_drop]⟩
 have af:Hid (∀k,zAo t.kept s k->yP t s m.mk' (cs.map Cx.ch)=if (((t.kept.drop k).any fun d=>xD m.mk' d.chg&&d.out)||(((t.kept.drop k).any fun d=>xD m.mk' d.chg)&&(t.kept.drop k).any fun d=>xD d.marks (cs.map Cx.ch)))=true then (false,11) else ((t.kept.drop k).any fun d=>xD m.mk' d.chg,0)):=fun k J=>zH6 J _ _ hlow
 have ad:Hid (∀k,zAo t.kept s k->∀o C,jV m.mk' (cs.map Cx.ch) (t.kept.drop k) o C->yP t s m.mk' (cs.map Cx.ch)=(o,0)):=fun k J o C O=>jV.check J hlow O
 have ak:Hid (∀f,Below W.heap.size W f->∀d∈B,DIn f d):=fun f j d H=>(h.on j).inn d H
 have ai:Hid (∀f,Below W.heap.size W f->MIn f m/\dX f v cs):=fun f j=>⟨hm.on j,hc.on j⟩
 have bb:=hid O.len;have br:=O.chg;have bs:=h.few
 generalize yP t s m.mk' (cs.map Cx.ch)=CK at *
 generalize hck:cs.map Cx.ch=ck at *
 have ax:=hid hck;obtain ⟨X,Y,rfl⟩:=ae;obtain ⟨mk,hmk⟩:∃mk,m.mk'=mk:=⟨_,rfl⟩;rw [hmk] at af ad;have bm:=hid hmk
 have bf:Hid (∀f,Below W.heap.size W f->∀d∈B,CC 164 #[.agg #[m.ksl,m.rsl],d.csl] f fun e F=>zAA f (xD mk d.dn.chg) e F):=fun f j d H=>by
  have hd':=ak.out f j d H;have:=zAF m d.csl d.cs f (ai.out f j).1 bb.out hd'.chg (by have:=hd'.sz.chg;omega);rw [bm.out] at this;exact this
 have aq:Hid (∀f,Below W.heap.size W f->∀d∈B,CC 164 #[.agg #[d.m.ksl,d.m.rsl],sc X cs.length Y] f fun e F=>zAA f (xD d.dn.marks ck) e F):=fun f j d H=>by
  have hd':=ak.out f j d H;have:=zAF d.m _ cs f hd'.mrk hd'.sz.len (ai.out f j).2 (by omega);rw [ax.out] at this;exact this
 obtain ⟨aw,bh,bn,be,ba,bi⟩:=m;simp only [xE,Mx.ksl,Mx.rsl] at *;go_enter func111,ntmps111;go_wp2_with fail;(try rw [hV]);refine bc.out.mono ?_;rintro e w1 ⟨⟨k,u,rfl,J,p,cap,rfl,H⟩,hb1⟩;obtain ⟨hcut,hmap⟩:=HT.out k J;have ao:=hid (af.out k hcut);have ag:=hid (ad.out k hcut);rw [<-hmap] at ao ag;have bg:Hid (∀x∈B.drop k,x∈B):=fun x hx=>xaK hx
 have bq:(B.drop k).length<=64:=by rw [xaw];omega
 generalize B.drop k=D at *
 have HD:=hid H;have bp:=hid hb1
 have n:Hid (∀f,Below w1.heap.size w1 f->Below V.heap.size V f/\Below W.heap.size W f):=fun f j=>by
  have h9:=zA hb1 hb1.size j;exact ⟨h9,zA HB.out HB.out.size h9⟩
 go_wp2_with fail
 go_loopg [8,10,26] D.length (fun gg v8 av vi wr=>∃(i:Nat) (o C:Bool),v8=.bool o/\av=.bool C/\vi=ii i/\i<=D.length/\D.length-i<=gg/\Hid (Below w1.heap.size w1 wr)/\Hid (jV mk ck ((D.take i).map Dx.dn) o C))
 case atStart=>exact ⟨0,false,false,rfl,rfl,rfl,by omega,by omega,zaR _ _,zNo _ _⟩
 obtain ⟨i,o,C,rfl,rfl,rfl,hi,bu,R,N⟩:=hrel
 by_cases hlt:i<D.length
 ·have az:(i:Int)<(D.length:Int):=by omega
  have bo:(0:Int)<=i:=by omega
  obtain ⟨b1,o1,rfl,k1⟩:∃b off,p=some (aa b off)/\KDx.At w1 b off D:=by
   rcases HD.out with h|h
   ·rw [h] at hlt;simp at hlt
   exact h
  obtain ⟨c0,c1,c2,c3,c4,c5⟩:=zJ9 (zC.at_kept k1 R.out) i hlt;have an:=bg.out _ (zaN hlt);obtain ⟨V1,hV1⟩:∃V1,wr.alloc (.cells (yN D[i]).toArray 131)=V1:=⟨_,rfl⟩;have ar:Below wr.heap.size wr V1:=by rw [<-hV1];exact zaQ
  have Z:Below w1.heap.size w1 V1:=zA R.out R.out.size ar;have am:=hid (bf.out V1 (n.out V1 Z).2 _ an);have ah:Hid (∀f,Below w1.heap.size w1 f->CC 164 #[.agg #[(D[i]).m.ksl,(D[i]).m.rsl],sc X cs.length Y] f fun e F=>zAA f (xD (D[i]).dn.marks ck) e F):=fun f j=>aq.out f (n.out f j).2 _ an
  have bd:(D.take (i+1)).map Dx.dn=(D.take i).map Dx.dn++[(D[i]).dn]:=by
   rw [zaK hlt,xak];rfl
  have bl:D.map Dx.dn=(D.take i).map Dx.dn++(D[i]).dn::(D.drop (i+1)).map Dx.dn:=by
   rw [<-xaZ,<-xak,<-List.drop_eq_getElem_cons hlt,xbZ]
  have y:Hid (∀a b,xD mk (D[i]).dn.chg=a->(C||xD (D[i]).dn.marks ck)=b->(a&&(D[i]).dn.out)=false->((o||a)&&b)=false->jV mk ck ((D.take (i+1)).map Dx.dn) (o||a) b):=fun a b ha E L P=>by
   rw [bd];exact N.out.snoc _ ha E L P
  have w:Hid (∀a b,xD mk (D[i]).dn.chg=a->(C||xD (D[i]).dn.marks ck)=b->(a&&(D[i]).dn.out)=true∨((o||a)&&b)=true->CK=(false,11)):=fun a b ha E L=>by
   have P:=N.out.clash (D[i]).dn ((D.drop (i+1)).map Dx.dn) ha E L;rw [<-bl] at P;rw [ao.out,xae P]
  have au:=hid N.out.both;obtain ⟨G,hG⟩:∃G,wr.heap.size=G:=⟨_,rfl⟩;have ab:V1.heap[G]? = some (.cells (yN D[i]).toArray 131 (0,0)):=by rw [<-hV1,<-hG];exact xab wr _
  have bj:G<V1.heap.size:=(Array.getElem?_eq_some_iff.1 ab).1
  generalize D[i]=x at *
  have al:Hid (∀f,Below V1.heap.size V1 f->f.heap[G]? = some (.cells (yN x).toArray 131 (0,0))):=fun f j=>(j.block G bj).trans ab
  obtain ⟨a0,a1⟩:=bk.out V1 (n.out V1 Z).1;obtain ⟨A,hA⟩:∃A,xD mk x.dn.chg=A:=⟨_,rfl⟩;obtain ⟨Bv,hBv⟩:∃Bv,xD x.dn.marks ck=Bv:=⟨_,rfl⟩;rw [hA] at am y w;rw [hBv] at ah y w;obtain ⟨xs,xt,xo,⟨xkp,xkc,xks,xrp,xrc,xrs⟩,xcp,xcc,xcs⟩:=x;simp only [yN,Mx.ksl,Mx.rsl,Dx.csl,Dx.dn] at *;have d5:V1.cell? (aa G 5)=some (sc xcp xcs.length xcc):=cz ab;have ap:=hid Z;go_upto_region 9 with fail
  (try rw [hG]);(try rw [hV1]);go_wp2_with fail;refine am.out.mono ?_;rintro e K ⟨rfl,T⟩;have r:=hid (zA ap.out ap.out.size T);have ac:=hid (al.out K T);have S:K.cell? (aa G 2)=some (.bool xo):=by rw [zaC ac.out];rfl
  have q3:K.cell? (aa G 3)=some (sc xkp xks.length xkc):=by rw [zaC ac.out];rfl
  have q4:K.cell? (aa G 4)=some (sc xrp xrs.length xrc):=by rw [zaC ac.out];rfl
  have U:=hid (ah.out K r.out)
  have Q:Hid (∀f,Below K.heap.size K f->f.cell? (aa G 2)=some (.bool xo)):=fun f j=>by
   have:=al.out f (zA T T.size j);rw [zaC this];rfl
  cases C with
  | true =>
   cases o with
   | true=>exact absurd au.out (by decide)
   | false =>
   cases A with
   | true =>
    cases xo with
    | true =>
     go_wp2_with fail
     go_ret2
     exact ⟨by rw [w.out true true rfl rfl (xac rfl)];rfl,(n.out _ r.out).2⟩
    | false =>
    go_wp2_with fail
    go_ret2
    exact ⟨by rw [w.out true true rfl rfl (xaf rfl)];rfl,(n.out _ r.out).2⟩
   | false =>
   cases xo with
   | true =>
    go_wp2_with fail
    go_roundg (D.length-(i+1))
    case measure=>omega
    exact ⟨i+1,false,true,rfl,rfl,by go_num,by omega,by omega,r.out,y.out false true rfl rfl rfl rfl⟩
   | false =>
   go_wp2_with fail
   go_roundg (D.length-(i+1))
   case measure=>omega
   exact ⟨i+1,false,true,rfl,rfl,by go_num,by omega,by omega,r.out,y.out false true rfl rfl rfl rfl⟩
  | false =>
  cases o with
  | true =>
   cases A with
   | true =>
    go_wp2_with fail
    refine U.out.mono ?_;rintro e I ⟨rfl,z⟩;have l:=hid (zA r.out r.out.size z);have S:=Q.out I z
    cases Bv with
    | true =>
     cases xo with
     | true =>
      go_wp2_with fail
      go_ret2
      exact ⟨by rw [w.out true true rfl rfl (xac rfl)];rfl,(n.out _ l.out).2⟩
     | false =>
     go_wp2_with fail
     go_ret2
     exact ⟨by rw [w.out true true rfl rfl (xaf rfl)];rfl,(n.out _ l.out).2⟩
    | false =>
    cases xo with
    | true =>
     go_wp2_with fail
     go_ret2
     exact ⟨by rw [w.out true false rfl rfl (xac rfl)];rfl,(n.out _ l.out).2⟩
    | false =>
    go_wp2_with fail
    go_roundg (D.length-(i+1))
    case measure=>omega
    exact ⟨i+1,true,false,rfl,rfl,by go_num,by omega,by omega,l.out,y.out true false rfl rfl rfl rfl⟩
   | false =>
   go_wp2_with fail
   refine U.out.mono ?_;rintro e I ⟨rfl,z⟩;have l:=hid (zA r.out r.out.size z);have S:=Q.out I z
   cases Bv with
   | true =>
    cases xo with
    | true =>
     go_wp2_with fail
     go_ret2
     exact ⟨by rw [w.out false true rfl rfl (xaf rfl)];rfl,(n.out _ l.out).2⟩
    | false =>
    go_wp2_with fail
    go_ret2
    exact ⟨by rw [w.out false true rfl rfl (xaf rfl)];rfl,(n.out _ l.out).2⟩
   | false =>
   cases xo with
   | true =>
    go_wp2_with fail
    go_roundg (D.length-(i+1))
    case measure=>omega
    exact ⟨i+1,true,false,rfl,rfl,by go_num,by omega,by omega,l.out,y.out false false rfl rfl rfl rfl⟩
   | false =>
   go_wp2_with fail
   go_roundg (D.length-(i+1))
   case measure=>omega
   exact ⟨i+1,true,false,rfl,rfl,by go_num,by omega,by omega,l.out,y.out false false rfl rfl rfl rfl⟩
  | false =>
  cases A with
  | true =>
   go_wp2_with fail
   refine U.out.mono ?_;rintro e I ⟨rfl,z⟩;have l:=hid (zA r.out r.out.size z);have S:=Q.out I z
   cases Bv with
   | true =>
    cases xo with
    | true =>
     go_wp2_with fail
     go_ret2
     exact ⟨by rw [w.out true true rfl rfl (xac rfl)];rfl,(n.out _ l.out).2⟩
    | false =>
    go_wp2_with fail
    go_ret2
    exact ⟨by rw [w.out true true rfl rfl (xaf rfl)];rfl,(n.out _ l.out).2⟩
   | false =>
   cases xo with
   | true =>
    go_wp2_with fail
    go_ret2
    exact ⟨by rw [w.out true false rfl rfl (xac rfl)];rfl,(n.out _ l.out).2⟩
   | false =>
   go_wp2_with fail
   go_roundg (D.length-(i+1))
   case measure=>omega
   exact ⟨i+1,true,false,rfl,rfl,by go_num,by omega,by omega,l.out,y.out true false rfl rfl rfl rfl⟩
  | false =>
  go_wp2_with fail
  refine U.out.mono ?_;rintro e I ⟨rfl,z⟩;have l:=hid (zA r.out r.out.size z);have S:=Q.out I z
  cases Bv with
  | true =>
   cases xo with
   | true =>
    go_wp2_with fail
    go_roundg (D.length-(i+1))
    case measure=>omega
    exact ⟨i+1,false,true,rfl,rfl,by go_num,by omega,by omega,l.out,y.out false true rfl rfl rfl rfl⟩
   | false =>
   go_wp2_with fail
   go_roundg (D.length-(i+1))
   case measure=>omega
   exact ⟨i+1,false,true,rfl,rfl,by go_num,by omega,by omega,l.out,y.out false true rfl rfl rfl rfl⟩
  | false =>
  cases xo with
  | true =>
   go_wp2_with fail
   go_roundg (D.length-(i+1))
   case measure=>omega
   exact ⟨i+1,false,false,rfl,rfl,by go_num,by omega,by omega,l.out,y.out false false rfl rfl rfl rfl⟩
  | false =>
  go_wp2_with fail
  go_roundg (D.length-(i+1))
  case measure=>omega
  exact ⟨i+1,false,false,rfl,rfl,by go_num,by omega,by omega,l.out,y.out false false rfl rfl rfl rfl⟩
 have az:¬ (i:Int)<(D.length:Int):=by omega
 have ay:D.take i=D:=xaj (by omega);rw [ay] at N;have HE:=hid (ag.out o C N.out);go_wp2_with fail
 go_ret2
 exact ⟨by rw [HE.out];rfl,by have q:=(n.out _ R.out).2;rw [hM] at q;exact q⟩
def zBJ (n0:Nat) (W:World) (B:Nat->Prop) (g:Nat) (t:Tk):Prop:=∃ds va last,wU n0 W g t ds va last/\B=kD g ds va
theorem zE4 {n0:Nat} {W:World} {g:Nat} {c:List Dx} {f:Value} {d:Tk} {e:World} (h:zBs n0 W g c f d e):zQ7 zBJ n0 W (kD g c f) g d e:=by
 obtain ⟨b,a,k,i,j,l⟩:=h;exact ⟨kD g b a,⟨b,a,k,i,rfl⟩,j,l⟩
theorem zA0 (b o:Nat) (x:Int) (w:World) (c:w.cell? ⟨b,o,none⟩=some (.int .u64 x)):CC 81 #[.pointer (some ⟨b,o,none⟩)] w fun e a=>e=.returned (.int .u64 x)/\a=w:=by
 have d:=run_call_load (P:=prog) func130 (by kernel_rfl) (by kernel_rfl) (by kernel_rfl) .u64 (by kernel_rfl) c;go_enter func81,ntmps81;go_wp2;go_ret;exact ⟨rfl,rfl⟩
theorem zGO (b o:Nat) (x y:Int) (w:World) (c:w.cell? ⟨b,o,none⟩=some (.int .u64 x)) (a:w.frozen? ⟨b,o,none⟩=false):CC 79 #[.pointer (some ⟨b,o,none⟩),.int .u64 y] w fun e d=>e=.returned (.tuple #[])/\d=w.setCell ⟨b,o,none⟩ (.int .u64 y):=by
 have f:=run_call_store (P:=prog) func126 (by kernel_rfl) (by kernel_rfl) (by kernel_rfl) (by kernel_rfl) (k:=.u64) (y:=y) c a;go_enter func79,ntmps79;go_wp2
 go_end0
 exact ⟨rfl,rfl⟩
section
variable {n0 g:Nat} {W W':World} {B:Nat→Prop} {os:Sn} {fl:Int}
def MU:dZ Int Int where
 K:=3
 E:=24
 M:=156
 key x:=.int .i64 x
 lit x:=.int .i64 x
 fit x:=(Lit.int .i64 x).wf=true
 val x:=.int .u64 x
 enc x:=.lit (.int .u64 x)
 read v:=match v with
  | .int .u64 x=>some (.lit (.int .u64 x),[])
  | _=>none
 zero:=0
 und:=underlying156
 keyed:=Maps.int_keyed underlying3
 key_is x h:=Maps.keyOf_int_mk underlying3 h
 key_fit x l h:=by
  rw [keyOf_int underlying3] at h;simp [mapKey,underlying3] at h
  grind
 key_inv v l h:=by
  rw [keyOf_int underlying3] at h
  cases v<;>simp [mapKey,underlying3] at h
  simp_all
 lit_inj x y _ _ h:=by injection h
 read_mk e:=rfl
 read_inv v y h:=by grind
 enc_inj a b h:=by grind
 zeroV w:=by kernel_rfl
theorem zJr {x:Int} (a:-9223372036854775808<=x) (b:x<=9223372036854775807):MU.fit x:=(Lit.wf_int_iff .i64 x).2 ⟨a,b⟩
structure uT (n0:Nat) (W:World) (B:Nat->Prop) (g:Nat) (os:Sn) (fl:Int):Prop where
 is:∃m,W.heap[g]? = some (.cells #[.int .u64 fl,.map (some m),.int .i64 (os.length:Int)] 158 (0,0))/\uZ MU W m os.length (atQ os) (yY os)/\n0<=g/\n0<=m/\∀k,B k↔k=g∨k=m
theorem uT.blk (h:uT n0 W B g os fl) (k:Nat) (a:B k):n0<=k/\k<W.heap.size:=by
 obtain ⟨m,e,c,f,d,b⟩:=h.is
 rcases (b k).1 a with rfl|rfl
 ·grind
 exact ⟨d,c.lt⟩
theorem uT.fr {P:Nat->Prop} (h:uT n0 W B g os fl) (f:Fr P W W') (b:∀k,B k->¬ P k):uT n0 W' B g os fl:=by
 obtain ⟨m,c,d,e,i,a⟩:=h.is;exact ⟨m,(f.block g (gA c).1 (b g ((a g).2 (xac rfl)))).trans c,d.on (f.block m d.lt (b m ((a m).2 (xaf rfl)))),e,i,a⟩
theorem uT.on (h:uT n0 W B g os fl) (a:Below W.heap.size W W'):uT n0 W' B g os fl:=h.fr (P:=fun _=>False) (Fr.of_below a) fun _ _ k=>k
def vA (n0:Nat) (W:World) (B:Nat->Prop) (g:Nat) (os:Sn) (fl:Int) (w':World):Prop:=∃B',uT n0 w' B' g os fl/\Fr B W w'/\∀k,B' k->B k∨W.heap.size<=k
theorem vA.same (h:uT n0 W B g os fl):vA n0 W B g os fl W:=⟨B,h,Fr.refl _ _,fun _ a=>xac a⟩
theorem vA.below {b:World} (h:uT n0 W B g os fl) (a:Below W.heap.size W b):vA n0 W B g os fl b:=⟨B,h.on a,Fr.of_below a,fun _ c=>xac c⟩
theorem zLR (n0:Nat) (W:World) (f:n0<=W.heap.size):CC 36 #[] W fun e b=>∃B g,e=.returned (.pointer (some ⟨g,0,none⟩))/\uT n0 b B g [] 0/\Below W.heap.size W b/\∀k,B k->W.heap.size<=k:=by
 have j:=@run_makeMap prog;have h:Bw W ((W.alloc (.map #[] 0)).alloc (.cells #[iu 0,.map (some W.heap.size),ii 0] 158)):=(zaQ).alloc (by simp) _
 have d:Hid (uT n0 ((W.alloc (.map #[] 0)).alloc (.cells #[iu 0,.map (some W.heap.size),ii 0] 158)) (fun k=>k=W.heap.size+1∨k=W.heap.size) (W.heap.size+1) [] 0):=by
  have a:=xab (W.alloc (.map #[] 0)) (.cells #[iu 0,.map (some W.heap.size),ii 0] 158);rw [xba] at a;refine ⟨W.heap.size,a,?_,by omega,f,fun k=>xbE⟩;refine ((zEM MU W).on (xaG _ _ _ (by simp))).congr fun k _=>?_
  unfold atQ
  split<;>simp
 have i:=hid h;go_enter func36,ntmps36;go_wp2_with fail;go_ret;exact ⟨_,_,rfl,d.o,i.o,fun k c=>by rcases c with rfl|rfl<;>omega⟩
theorem zJY (n0 g:Nat) (os:Sn) (fl x:Int) (B:Nat->Prop) (W:World) (h:uT n0 W B g os fl) (V:os.length<40000000000000):CC 40 #[.pointer (some ⟨g,0,none⟩),.int .u64 x] W fun e n=>e=.returned (.tuple #[.int .i64 (bR os fl x).1.1,.int .i64 (bR os fl x).1.2])/\vA n0 W B g (bR os fl x).2 fl n:=by
 have P:=hid h;obtain ⟨m,b,l,u,D,j⟩:=h.is;have T:W.cell? (aa g 1)=some (.map (some m)):=cz b;have R:W.cell? (aa g 2)=some (ii (os.length:Int)):=cz b;have I:W.cell? (aa g 0)=some (iu fl):=cz b;have U:W.frozen? (aa g 2)=false:=zaF b 2;have C:=hid (zA0 g 0 fl W I)
 by_cases hlt:x<fl
 ·have r:Hid (bR os fl x=((0,8),os)):=by show _=_;unfold bR;rw [xae hlt]
  clear h b l;go_enter func40,ntmps40;go_wp2_with fail;refine C.o.mono ?_;rintro e Q ⟨rfl,rfl⟩;go_wp2_with fail
  go_ret2
  rw [r.o];exact ⟨rfl,vA.same P.o⟩
 have r:Hid (bR os fl x=(((os.length:Int)+1,0),os++[some x])):=by show _=_;unfold bR;rw [xag hlt]
 have q:g≠m:=l.off b;obtain ⟨a,c⟩:=eE (W.setCell (aa g 2) (ii ((os.length:Int)+1)));have f:a.heap[g]? = some (oc #[iu fl,.map (some m),ii ((os.length:Int)+1)] 158):=by rw [<-c];exact xaa W g 2 _ _ _ b
 have y:a.heap[m]? = W.heap[m]?:=by rw [<-c];exact xaC W _ m _ (fun e=>q e.symm)
 have M:a.cell? (aa g 1)=some (.map (some m)):=cz f;have G:a.cell? (aa g 2)=some (ii ((os.length:Int)+1)):=cz f;have v:MU.fit ((os.length:Int)+1):=zJr (by omega) (by omega);obtain ⟨i,E,s,d⟩:=zCs (W:=a.drew) (l.on y) v (by unfold maxLen;omega) x;have p:i.heap[g]? = some (oc #[iu fl,.map (some m),ii ((os.length:Int)+1)] 158):=(d.block g (gA f).1 (fun e=>q (by injection e))).trans f
 have J:Hid (vA n0 W B g (os++[some x]) fl i):=by
  refine ⟨B,⟨m,?_,?_,u,D,j⟩,?_,fun _ t=>xac t⟩
  ·grind
  ·rw [xah,zIv];have H:atQ os ((os.length:Int)+1)=none:=zQk (by omega);rw [H] at s;exact s.congr fun k _=>(zOb os x k).symm
  refine ⟨d.os.trans (by rw [<-c];rfl),d.tape.trans (by rw [<-c];rfl),d.output.trans (by rw [<-c];rfl),?_,fun k t w=>?_⟩
  ·have F:a.z=W.z:=by rw [<-c];simp
   have:=d.size
   simp_all
  have N:a.heap[k]? = W.heap[k]?:=by rw [<-c];exact xaC W _ k _ (fun e=>w ((j k).2 (xac e)))
  have F:a.z=W.z:=by rw [<-c];simp
  exact (d.block k (by simp_all) (fun e=>w ((j k).2 (xaf (by injection e))))).trans N
 have L:i.cell? (aa g 1)=some (.map (some m)):=cz p;have O:i.cell? (aa g 2)=some (ii ((os.length:Int)+1)):=cz p;have hput':(Instr.mapUpdate 156 (.map (some m)) (ii ((os.length:Int)+1)) (iu x)).run prog a.drew=.ok () i:=E;clear h b l f y s d p E j v q u D;go_enter func40,ntmps40;go_wp2_with fail;refine C.o.mono ?_;rintro e Q ⟨rfl,rfl⟩;go_wp2_with fail;refine tkb (S:=fun n=>n.cell? (aa g 1)=some (.map (some m))/\n.cell? (aa g 2)=some (ii ((os.length:Int)+1))) ⟨M,G⟩ fun X=>?_;refine tkv4 0 1 2 3 (jp g) (jp g) (.pointer (some (aa g 1))) (.map (some m)) X ?_;simp only [Act.put,sz];refine tkv3 4 5 6 (jp g) (jp g) (.pointer (some (aa g 2))) X ?_;simp only [Act.put,sz];refine tkv2 7 8 (ii ((os.length:Int)+1)) (iu x) X ?_;simp only [Act.put,sz];refine tkc 9 fun K A=>?_
 go_simp
 refine A.out _ _ (⟨L,O⟩) (fun X=>?_);clear A K
 try simp only [Act.put,sz]
 refine tkd ?_;go_wp2_with fail
 go_ret2
 rw [r.o];exact ⟨rfl,J.o⟩
end
theorem zQs {os:Sn} {s:Int} (h:some s∈os):∃i:Nat,i<os.length/\atQ os ((i:Int)+1)=some s:=by grind [List.mem_iff_getElem,zRa]
theorem zP4 {os:Sn} {a s:Int} (h:atQ os a=some s):some s∈os:=by
 unfold atQ at h
 split at h
 ·cases hg:os[(a-1).toNat]? with
  | none=>rw [hg] at h;cases h
  | some o =>
  rw [hg] at h;obtain rfl:o=some s:=h;exact List.mem_of_getElem? hg
 cases h
theorem zID {os:Sn} {m c:Int} (e:m<=c) (f:∀s,some s∈os->m<=s) (d:m=c∨some m∈os):m=yJ os c:=by
 have a:=zCw os c
 have b:yJ os c<=m:=by
  rcases d with rfl|d
  ·exact a
  exact jG d c
 grind [zAR]
theorem uT.fl {n0:Nat} {W:World} {B:Nat->Prop} {g:Nat} {os:Sn} {fl:Int} (h:uT n0 W B g os fl):W.cell? ⟨g,0,none⟩=some (.int .u64 fl)/\W.frozen? ⟨g,0,none⟩=false:=by
 obtain ⟨m,a,_⟩:=h.is;exact ⟨by rw [zaC a];rfl,zaF a 0⟩
theorem zB8 (n0 g:Nat) (os:Sn) (fl:Int) (B:Nat->Prop) (W:World) (h:uT n0 W B g os fl):CC 71 #[.pointer (some ⟨g,0,none⟩)] W fun e b=>e=.returned (.int .u64 fl)/\b=W:=by
 have a:=hid (zA0 g 0 fl W h.fl.1);go_enter func71,ntmps71;go_wp2_with fail;refine a.o.mono ?_;rintro e c ⟨rfl,rfl⟩;go_wp2_with fail;go_ret;exact ⟨rfl,rfl⟩
theorem zGK (n0 g:Nat) (os:Sn) (fl:Int) (B:Nat->Prop) (W:World) (h:uT n0 W B g os fl):CC 69 #[.pointer (some ⟨g,0,none⟩)] W fun e c=>e=.returned (.int .i64 (yY os:Nat))/\c=W:=by
 obtain ⟨m,d,f,i,k,l⟩:=h.is;have j:W.cell? (aa g 1)=some (.map (some m)):=cz d;have b:=fun a=>zMz f a
 have hl':∀a,(Builtin.len_ #[156] a #[.map (some m)]).run prog W=.ok (ii (yY os:Nat)) W:=b;go_enter func69,ntmps69;go_wp2_with fail;go_ret;exact ⟨rfl,rfl⟩
theorem zHW (n0 g:Nat) (os:Sn) (fl b:Int) (B:Nat->Prop) (W:World) (h:uT n0 W B g os fl) (c:MU.fit b):CC 160 #[.pointer (some ⟨g,0,none⟩),.int .i64 b] W fun e d=>e=.returned (.tuple #[.int .u64 ((atQ os b).getD 0),.bool (atQ os b).isSome])/\d=W:=by
 obtain ⟨m,f,i,j,n,o⟩:=h.is;have l:W.cell? (aa g 1)=some (.map (some m)):=cz f;have k:(Instr.lookup 156 (.map (some m)) (ii b) true).run prog W=.ok (.tuple #[iu ((atQ os b).getD 0),.bool (atQ os b).isSome]) W:=uK i c
 generalize atQ os b=a at *
 go_enter func160,ntmps160
 go_wp2_with fail
 go_ret2
 exact ⟨rfl,rfl⟩
theorem zFy (n0 g:Nat) (os:Sn) (fl a:Int) (B:Nat->Prop) (W:World) (h:uT n0 W B g os fl) (n:MU.fit a):CC 108 #[.pointer (some ⟨g,0,none⟩),.int .i64 a] W fun e C=>e=.returned (.bool (atQ os a).isSome)/\vA n0 W B g (yM os a) fl C:=by
 have H:Hid _:=h;obtain ⟨m,i,p,y,D,r⟩:=h.is;have G:W.cell? (aa g 1)=some (.map (some m)):=cz i;have b:=hid (zHW n0 g os fl a B W h n);have x:g≠m:=p.off i
 cases ha:atQ os a with
 | none =>
  rw [ha] at b;have j:Hid (vA n0 W B g (yM os a) fl W):=by show vA _ _ _ _ _ _ _;rw [zBV ha];exact vA.same h
  simp only [Option.getD,Option.isSome] at b;go_enter func108,ntmps108;go_wp2_with fail;refine b.o.mono ?_;rintro e t ⟨rfl,rfl⟩;go_wp2_with fail;go_ret;exact ⟨rfl,j.o⟩
 | some s =>
 rw [ha] at b;have w:=fun f=>zH5 p n f
 have v:Hid (∀f,∃d,(Builtin.delete_ #[156,3] f #[.map (some m),ii a]).run prog W=.ok (.tuple #[]) d/\vA n0 W B g (yM os a) fl d):=fun f=>by
  obtain ⟨d,z,q,u,A,c,I⟩:=w f;refine ⟨d,q,B,⟨m,?_,?_,y,D,r⟩,?_,fun _ l=>xac l⟩
  ·rw [bB];exact (c.block g (gA i).1 (fun e=>x (by injection e))).trans i
  ·rw [bB];have:=zG1 os a;have F:z=yY (yM os a):=by rw [ha] at A this;omega
   rw [<-F];exact u.congr fun k _=>(zLi os a k).symm
  exact ⟨c.os,c.tape,c.output,c.size,fun k l E=>c.block k l fun e=>E ((r k).2 (xaf (by injection e)))⟩
 simp only [Option.getD,Option.isSome] at b;go_enter func108,ntmps108;go_wp2_with fail;refine b.o.mono ?_;rintro e t ⟨rfl,rfl⟩;obtain ⟨d,q,hT⟩:=v.o 0;have j:=hid hT;go_wp2_with fail;go_ret;exact ⟨rfl,j.o⟩
theorem zB0 (n0 g:Nat) (os:Sn) (fl d:Int) (B:Nat->Prop) (W:World) (h:uT n0 W B g os fl) (hf:os.length<40000000000000):CC 120 #[.pointer (some ⟨g,0,none⟩),.int .u64 d] W fun e v=>e=.returned (.int .u64 (yJ os d))/\vA n0 W B g os fl v/\Below W.heap.size W v:=by
 have E:=hid h;obtain ⟨m,J,u,h1,h2,hB⟩:=h.is;have c0:W.cell? (aa g 1)=some (.map (some m)):=cz J
 have F:Hid (∀(c:List Int) (a:Int),a<=d->(∀k∈c,∀s,atQ os k=some s->a<=s)->(a=d∨some a∈os)->(∀k,MU.fit k->(atQ os k).isSome=true->k∈c)->a=yJ os d):=fun c a y K w a4 =>
  zID y (fun s hs=>by grind [zQs,zJr]) w
 obtain ⟨N,i⟩:=eE W.heap.size;have ag:m<N:=by rw [<-i];exact u.lt
 go_enter func120,ntmps120
 go_wp2_with (at_range;refine zC8 (T:=MU) _ rfl _ rfl m os.length (atQ os) (yY os) rfl u ?_;intro A z I ak)
 go_frame
 (try rw [i] at z);(try rw [i]);have Y:=hid z
 have C:Hid (Below N W A):=by
  have:=Fr.of_grown (P:=fun _=>False) I fun k f=>by cases f
  exact this.below (by omega) fun k f=>f.elim
 go_loopg [5] (yY os) (fun gg M wr=>∃(c:List Int) (l:Nat) (a:Int),M=iu a/\l<=gg/\Hid (wD MU wr m N os.length (atQ os) (yY os) c l)/\Hid (Below N W wr)/\Hid (a<=d/\(∀k∈c,∀s,atQ os k=some s->a<=s)/\(a=d∨some a∈os)))
 case atStart=>exact ⟨[],yY os,d,rfl,zaL _,Y.o,C.o,⟨xbo _,(fun k f=>by simp at f),xac rfl⟩⟩
 obtain ⟨c,l,a,rfl,ai,Z,n,j⟩:=hrel;have x:=Z.o;go_wp2_with (at_next;refine zE6 (T:=MU) _ rfl _ rfl m N os.length (atQ os) (yY os) c l rfl x ?_ ?_)
 ·intro G;have O:=hid (F.o c a j.o.1 j.o.2.1 j.o.2.2 G);go_wp2_with fail;go_ret;rw [O.o,i];exact ⟨rfl,vA.below E.o (by rw [i];exact n.o),n.o⟩
 intro k s q Q ad ac ab L ah S af R
 have D:Below N W q:=by
  have:=Fr.of_grown (P:=fun b=>b=N) S fun k f=>by grind
  exact n.o.trans (this.below (by have:=x.lt;omega) fun k f=>by omega)
 have al:=hid L;have ae:=hid D;have hen':(Instr.entry (jp N)).run prog q=.ok (.tuple #[ii k,iu s]) q:=R;have t:=hid ab;have V:MU.key k=ii k:=rfl;have H:MU.val s=iu s:=rfl;rw [V,H]
 have aj:Hid (min a s<=d/\(∀r∈c++[k],∀p,atQ os r=some p->min a s<=p)/\(min a s=d∨some (min a s)∈os)):=by
  obtain ⟨y,K,w⟩:=j.o;refine ⟨by omega,fun r X p U=>?_,?_⟩
  ·rcases List.mem_append.1 X with h|h
   ·grind
   rw [xaH] at h;subst h;rw [t.o] at U
   grind
  by_cases hsm:s<=a
  ·rw [Int.min_eq_right hsm];exact xaf (zP4 t.o)
  grind
 go_wp2_with fail
 go_roundg Q
 case measure=>omega
 grind
theorem uT.raised {n0:Nat} {W:World} {B:Nat->Prop} {g:Nat} {os:Sn} {fl:Int} (h:uT n0 W B g os fl) (f:Int):vA n0 W B g os f (W.setCell ⟨g,0,none⟩ (.int .u64 f)):=by
 obtain ⟨m,b,a,d,i,c⟩:=h.is;refine ⟨B,⟨m,xaa W g 0 _ _ _ b,a.on (xaC W _ m _ fun e=>a.off b e.symm),d,i,c⟩,?_,fun _ j=>xac j⟩;exact ⟨rfl,rfl,rfl,by simp,fun k _ l=>xaC W _ k _ fun e=>l ((c k).2 (xac e))⟩
theorem vA.then {n0:Nat} {W b d:World} {B:Nat->Prop} {g:Nat} {os:Sn} {fl:Int} (c:Below W.heap.size W b) (h:vA n0 b B g os fl d):vA n0 W B g os fl d:=by
 obtain ⟨f,e,i,j⟩:=h;refine ⟨f,e,(Fr.of_below (P:=B) c).then i fun k a=>xac a,fun k a=>(j k a).imp id fun h=>zaU c.size h⟩
theorem zHU (n0 g:Nat) (os:Sn) (fl f:Int) (B:Nat->Prop) (W:World) (h:uT n0 W B g os fl) (k:os.length<40000000000000):CC 72 #[.pointer (some ⟨g,0,none⟩),.int .u64 f] W fun e m=>e=.returned (.int .i64 (mN os fl f).1)/\vA n0 W B g os (mN os fl f).2 m:=by
 have d:=hid h;have c:=hid (zA0 g 0 fl W h.fl.1);have n:=hid (zB0 n0 g os fl f B W h k)
 by_cases h8:f<fl
 ·have a:Hid (mN os fl f=(8,fl)):=by show _=_;unfold mN;rw [xae h8]
  go_enter func72,ntmps72
  go_wp2_with fail
  refine c.o.mono ?_;rintro e j ⟨rfl,rfl⟩;go_wp2_with fail;go_ret;rw [a.o];exact ⟨rfl,vA.same d.o⟩
 have a:Hid (mN os fl f=if yJ os f<f then (1,fl) else (0,f)):=by
  show _=_
  unfold mN;rw [xag h8,zKt]
  by_cases h:yJ os f<f<;>simp [h]
 go_enter func72,ntmps72
 go_wp2_with fail
 refine c.o.mono ?_;rintro e j ⟨rfl,rfl⟩;go_wp2_with fail;refine n.o.mono ?_;rintro e w2 ⟨rfl,ht2,hb2⟩;have l:=hid ht2;have i:=hid hb2;have b:=hid (d.o.on hb2);have p:=hid (zGO g 0 fl f w2 b.o.fl.1 b.o.fl.2)
 generalize yJ os f=L at *
 by_cases hl:L<f
 ·go_wp2_with fail
  go_ret;rw [a.o,xae hl];exact ⟨rfl,l.o⟩
 go_wp2_with fail
 refine p.o.mono ?_;rintro e q ⟨rfl,rfl⟩;go_wp2_with fail;go_ret;rw [a.o,xag (by omega)];exact ⟨rfl,vA.then i.o (b.o.raised f)⟩
section
variable {D:List zQ}
theorem zB1 (h:OkD D) {typ:ByteArray} {k:Ky} (a:k∈sB D typ):ofD D k≠[]:=(wI h k).1 (List.mem_filter.1 a).1
theorem zBZ (h:OkD D) (typ:ByteArray):(sB D typ).Nodup:=zDK (h.rise.sublist xbG)
theorem zNX {n0:Nat} {W:World} {g m n:Nat} {G:Ky->Cm} (h:xI n0 W g m n G D) (hn:n<=1760000000000) (typ:ByteArray) (t:Int):CC 147 #[.pointer (some ⟨g,0,none⟩),.string typ,.int .u64 t] W fun e w'=>zFY W D typ t e w':=by
 obtain ⟨N,H⟩:=eE W.heap.size;obtain ⟨i0,hi0,hz0,hz1,hz2⟩:=xaL Tryz.infoFd;have HI:=hid hi0;have am:=hid (zEW h (by omega) typ);have HH:=hid h;have bh:=hid (zDw h (ks:=sB D typ) fun k s=>(List.mem_filter.1 s).1);have ai:=zCX h.ok t (zBZ h.ok typ) fun k s=>zB1 h.ok s
 have bo:=h.few;have ad:=hid (zB9 h.ok t typ)
 have bx:Hid (∀k v,v∈ofD D k->yZ v.val=true):=fun k v A=>by
  have bn:ofD D k≠[]:=by intro e;rw [e] at A;simp at A
  obtain ⟨h1,h2⟩:=HH.o.prg k bn;rw [<-h2] at A;obtain ⟨x,z,rfl⟩:=List.mem_map.1 A;exact (h1.each x z).2
 obtain ⟨a,aj⟩:=eE (sB D typ);rw [aj] at am bh ai ad;obtain ⟨TL,hTL⟩:=eE ((vT D t a).length);have az:Hid (∀i,(vT D t (a.take i)).length<=TL):=fun i=>by rw [<-hTL];exact zFw D t a i
 rw [hTL] at ai;have ci:TL<=1760000000000:=by omega
 have cm:a.length<=2400000000000:=by
  have:=zEO h.ok typ;rw [aj] at this;omega
 clear h hi0 aj hTL ai bo;go_enter func147,ntmps147;go_wp2_with fail;refine am.o.mono ?_;rintro e w3 ⟨u,rfl,Q,ap⟩;rw [H] at Q ap;obtain ⟨kp,kc,rfl⟩:=zC.own_shape Q;have bf:Hid (zD9 W N (sc kp a.length kc) a [] [] (sc none 0 0) w3):=⟨KFd.own_nil _ _,fun f hf=>by simp at hf,rfl,Q,ap⟩;clear Q ap am;go_wp2_with fail
 go_loopg [7,16] a.length (fun gg vf vi wr=>∃(i:Nat) (r:List Fd),vi=ii i/\i<=a.length/\a.length-i<=gg/\Hid (zD9 W N (sc kp a.length kc) a r (vT D t (a.take i)) vf wr))
 case atStart=>exact ⟨0,[],rfl,by omega,by omega,bf.out⟩
 clear bf;obtain ⟨i,r,rfl,hi,cn,c⟩:=hrel;have ag:N<=wr.heap.size:=by have:=c.o.bel.size;omega
 obtain ⟨fp,fc,rfl⟩:=zC.own_shape c.o.own
 by_cases hlt:i<a.length
 ·have bt:(i:Int)<(a.length:Int):=by omega
  have ck:(0:Int)<=i:=by omega
  obtain ⟨Y,ko,rfl,bd⟩:∃b off,kp=some (aa b off)/\KK.At wr b off a:=by
   obtain ⟨p',c',e,p⟩:=zC.own_is c.o.key;injection e with e _ _
   subst e
   rcases p with p|p
   ·rw [p] at hlt;simp at hlt
   exact p
  obtain ⟨k0,k1⟩:=zH9 bd i hlt;have Z:=bh.o _ (zaN hlt);have X:a.take (i+1)=a.take i++[a[i]]:=zaK hlt;have ak:=az.o (i+1);obtain ⟨k,s⟩:=eE (a[i]);rw [s] at k0 k1 Z X;rw [X,zBY,xah,zaM] at ak;have af:Hid (vT D t (a.take (i+1))=vT D t (a.take i)++(vK (ofD D k) t).map fun v=>(k,v)):=by show _=_;rw [X,zBY]
  obtain ⟨O,aq⟩:=eE (wr.alloc (.cells #[tq k.1,tq k.2] 36));have ae:Bw wr O:=by rw [<-aq];exact zaQ
  have cl:=ae.size;have aw:O.heap[wr.heap.size]? = some (oc #[tq k.1,tq k.2] 36):=by rw [<-aq];exact xab wr _
  have al:=c.o.on ag ae;have ah:=hid (zC4 (HH.o.on (by rw [H];exact al.bel)) k Z t);have ao:=hid al;have F:=hid aw;have bj:=hid (bx.o k);obtain ⟨J,bb⟩:=eE (vT D t (a.take i));rw [bb] at ao af ak;obtain ⟨sv,hsv⟩:=eE (vK (ofD D k) t);have cg:Hid (∀v∈sv,yZ v.val=true):=fun v A=>bj.o v (by rw [<-hsv] at A;exact zBT A)
  rw [hsv] at ah af ak;obtain ⟨B,cc⟩:=eE wr.heap.size;rw [cc] at F;have e0:O.cell? (aa B 0)=some (tq k.1):=by rw [zaC F.o];rfl
  have e1:O.cell? (aa B 1)=some (tq k.2):=by rw [zaC F.o];rfl
  obtain ⟨d,q⟩:=k;simp only at *;clear bd Z X s ae aw al bb hsv c bj;go_wp2_with fail;refine ah.o.mono ?_;rintro e w4 ⟨u4,o,rfl,b1,b2,_,b4,b5⟩;have cq:=b5.size;have ch:o.length<=sv.length:=by rw [<-b4,zaM];exact zaL _
  have av:LgJ W N (sc (some (aa Y ko)) a.length kc) a B (d,q) u4 o r J (sc fp r.length fc) w4:=by
   have bw:=ao.o.on (by omega) b5;exact ⟨bw,(b5.block B (gA F.o).1).trans F.o,zC.own_weak b1 (by omega),fun x z=>⟨zM (b2 x z) (by omega),cg.o x.ver (by rw [<-b4];exact List.mem_map.2 ⟨x,z,rfl⟩)⟩⟩
  obtain ⟨up,uc,rfl⟩:=zC.own_shape b1;have bp:=hid av;have ca:=hid b4;have au:r.length<=J.length:=Nat.le_of_eq ao.o.len;clear b1 b2 b4 b5 av ah e0 e1 k0 k1;go_wp2_with fail
  go_loopg [7,25] o.length (fun gg vf vj bi=>∃(j:Nat) (y:List Fd),vj=ii j/\j<=o.length/\o.length-j<=gg/\y.length<=r.length+j/\N<=bi.heap.size/\Hid (LgJ W N (sc (some (aa Y ko)) a.length kc) a B (d,q) (sc up o.length uc) o y (J++(o.take j).map fun x=>((d,q),x.ver)) vf bi))
  case atStart=>exact ⟨0,r,rfl,by omega,by omega,by omega,by omega,by show LgJ _ _ _ _ _ _ _ _ _ _ _ _;simpa using bp.o⟩
  obtain ⟨j,y,rfl,hj,cj,co,bq,C⟩:=hrel;obtain ⟨vp,vc,rfl⟩:=zC.own_shape C.o.lg.own
  by_cases hlj:j<o.length
  ·have bu:(j:Int)<(o.length:Int):=by omega
   have cr:(0:Int)<=j:=by omega
   obtain ⟨vb,vo,rfl,ay⟩:∃b off,up=some (aa b off)/\KV.At wr b off o:=by
    obtain ⟨p',c',e,p⟩:=zC.own_is C.o.row;injection e with e _ _
    subst e
    rcases p with p|p
    ·rw [p] at hlj;simp at hlj
    exact p
   obtain ⟨q0,q1,q2,q3,q4⟩:=zBd ay j hlj;have ax:=hid (zaN hlj);have E:o.take (j+1)=o.take j++[o[j]]:=zaK hlj;obtain ⟨x,z⟩:=eE (o[j]);rw [z] at q0 q1 q2 q3 q4 ax E;have cf:Hid (J++(o.take (j+1)).map (fun x=>((d,q),x.ver))=(J++(o.take j).map fun x=>((d,q),x.ver))++[((d,q),x.ver)]):=by show _=_;rw [E,xak,List.append_assoc];rfl
   obtain ⟨w,be⟩:=eE (wr.alloc (.cells (zF x).toArray 42));have ac:Bw wr w:=by rw [<-be];exact zaQ
   have ab:wO w wr.heap.size x:=by rw [<-be];exact xab wr _
   have cp:=ac.size;have P:=hid (C.o.on bq ac);obtain ⟨V0,br⟩:=eE wr.heap.size;rw [br] at ab;obtain ⟨y0,y1,y2,y3,y4⟩:=ab.cells;have z2:w.cell? (aa B 0)=some (tq d):=by rw [zaC P.o.box];rfl
   have z3:w.cell? (aa B 1)=some (tq q):=by rw [zaC P.o.box];rfl
   have bm:=hid P.o.lg.own;have cb:N<=w.heap.size:=by omega
   obtain ⟨R,S,M,K,T,U,L⟩:=x;simp only [zF,Vx.sl] at *;clear ay E z ac ab C
   go_wp2_with (first
    | (at_builtin;refine wpList_append_own_wide _ rfl _ _ 43 rfl N 171 i0 (.agg #[tq ⟨#[]⟩,tq ⟨#[]⟩,ii 0,iu 0,ii 0,.bool false,sc none 0 0]) 7 88 underlying43 HI.o hz0 hz1 hz2 rfl (by decide) _ _ _ rfl (xbp bm.o _) _ 1 1 [tq d,tq q,ii R,iu S,ii M,.bool K,sc T L.length U] rfl rfl (fun j u hj=>KFd.newsN w ⟨d,q,⟨R,S,M,K,T,U,L⟩⟩ _ (by simp) j u hj) (by intro u hu;simp at hu;rcases hu with rfl|rfl|rfl|rfl|rfl|rfl|rfl<;>rfl) (by unfold maxLen;omega) (by omega) (by simp;omega) ?_;intro v6 w6 ba bk cd;have bl:=hid ba;have bg:=hid bk;clear ba bk cd))
   go_roundg (o.length-(j+1))
   case measure=>omega
   have bs:Bw w (w.alloc (.cells #[tq d,tq q,ii R,iu S,ii M,.bool K,sc T L.length U] 171)):=zaQ;have bz:=(P.o.on cb bs).push (v':=v6) (by simp;omega) bg.o ax.o (zC.own_snoc bl.o rfl rfl);refine ⟨j+1,y++[⟨d,q,⟨R,S,M,K,T,U,L⟩⟩],by go_num,by omega,by omega,by rw [xah,xaX];omega,?_,?_⟩
   ·have:=bg.o.size;simp at this;omega
   show LgJ _ _ _ _ _ _ _ _ _ _ _ _
   rw [cf.o];exact bz
  have bu:¬ (j:Int)<(o.length:Int):=by omega
  have E:o.take j=o:=xaj (by omega)
  have bv:Hid (zD9 W N (sc (some (aa Y ko)) a.length kc) a y (vT D t (a.take (i+1))) (sc vp y.length vc) wr):=by
   have:=C.o.lg;rw [E] at this;show zD9 _ _ _ _ _ _ _ _;rw [af.o,<-ca.o,xbW];exact this
  clear E C;go_wp2_with fail;go_roundg (a.length-(i+1))
  case measure=>omega
  exact ⟨i+1,y,by go_num,by omega,by omega,bv.o⟩
 have bt:¬ (i:Int)<(a.length:Int):=by omega
 have an:a.take i=a:=xaj (by omega);rw [an,ad.o] at c;have au:=c.o.len;have ar:=az.o i;rw [an,ad.o] at ar;have bc:=hid (zFQ c.o.own (by omega) ag);clear an au ar;go_wp2_with fail;refine bc.o.mono ?_;rintro e w5 ⟨rfl,l,s1,V,s3,s4⟩;have ce:l.length=r.length:=V.length_eq
 have HP:Hid (zFY W D typ t (.returned (sc fp r.length fc)) w5):=by
  refine ⟨l.map Fd.fnd,⟨_,l,rfl,by rw [H];exact s1,fun f hf=>?_,rfl,?_⟩,by rw [<-c.o.eq];exact V.map _,s3⟩
  ·have hf':=V.mem_iff.1 hf;rw [H];refine ⟨yC (c.o.val f hf').1 s4 fun k s e=>?_,(c.o.val f hf').2⟩;obtain ⟨c1,t1,h3,I⟩:=tE (c.o.val f hf').1 s;obtain ⟨c2,h4⟩:=zV c.o.own e;rw [h3] at h4;injection h4 with h4
   injection h4 with _ h4 _
   rcases I with I|I
   ·exact absurd (I.symm.trans h4) (by decide)
   exact absurd (I.symm.trans h4) (by decide)
  rw [H];exact c.o.bel.trans (s4.below ag fun b hb=>(zaW c.o.own b hb).1)
 clear s1 V s3 s4 bc c ce;go_wp2_with fail;go_ret;exact HP.o
end
section
variable {n0 g n:Nat} {D:List zQ} {W:World}
def uP (n0 g n:Nat) (D:List zQ) (W:World):Prop:=∃m G,xI n0 W g m n G D
theorem uP.on {a:World} (h:uP n0 g n D W) (b:Below W.heap.size W a):uP n0 g n D a:=by
 obtain ⟨m,G,h⟩:=h;exact ⟨m,G,h.on b⟩
theorem uP.ok (h:uP n0 g n D W):OkD D:=by
 obtain ⟨m,G,h⟩:=h;exact h.ok
theorem uP.few (h:uP n0 g n D W):zT D<=n:=by
 obtain ⟨m,G,h⟩:=h;exact h.few
theorem uP.may (h:uP n0 g n D W) (k:Ky):∀v∈ofD D k,yZ v.val=true:=by
 obtain ⟨m,G,h⟩:=h;intro v a;have d:ofD D k≠[]:=by intro e;rw [e] at a;simp at a
 obtain ⟨b,c⟩:=h.prg k d;rw [<-c] at a;obtain ⟨x,hx,rfl⟩:=List.mem_map.1 a;exact (b.each x hx).2
theorem zSJ (w:World):CC 33 #[] w fun e c=>e=.returned (.pointer (some ⟨w.heap.size+1,0,none⟩))/\uP w.heap.size (w.heap.size+1) 0 [] c/\Below w.heap.size w c:=by
 have j:=@run_makeMap prog;have f:Bw w ((w.alloc (.map #[] 0)).alloc (.cells #[.map (some w.z)] 143)):=(zaQ).alloc (by simp) _
 have d:Hid (xI w.z ((w.alloc (.map #[] 0)).alloc (.cells #[.map (some w.z)] 143)) (w.z+1) w.z 0 (fun _=>⟨0,[],sc none 0 0⟩) []):=by
  have b:=xab (w.alloc (.map #[] 0)) (.cells #[.map (some w.z)] 143);rw [xba] at b;refine ⟨by rw [zaC b];rfl,by omega,zaL _,?_,fun k a=>absurd rfl a,fun l i a=>absurd rfl a,fun k a=>absurd rfl a,zKJ,fun k a=>absurd rfl a,fun k=>by show (0:Int)<=_;omega,zaL _⟩;exact (zMO w).on (xaG _ _ _ (by simp))
 have h:=hid f;go_enter func33,ntmps33;go_wp2_with fail;go_ret;exact ⟨rfl,⟨_,_,d.o⟩,h.o⟩
section
variable {n0 g n:Nat} {D:List zQ} {W:World}
theorem zR4 (h:uP n0 g n D W) (k:Ky) (b:yO k) (t:Int):CC 67 #[.pointer (some ⟨g,0,none⟩),.agg #[.string k.1,.string k.2],.int .u64 t] W fun e a=>vZ W (atV (ofD D k) t) e a:=by
 obtain ⟨m,G,h⟩:=h;exact zJo h k b t
theorem zOa (h:uP n0 g n D W) (k:Ky) (b:yO k) (i:Int) (hi:i<=9223372036854775807):CC 148 #[.pointer (some ⟨g,0,none⟩),.agg #[.string k.1,.string k.2],.int .i64 i] W fun e a=>vZ W (qB (ofD D k) i) e a:=by
 obtain ⟨m,G,h⟩:=h;grind [zGw]
theorem zRT (h:uP n0 g n D W) (k:Ky) (b:yO k):CC 162 #[.pointer (some ⟨g,0,none⟩),.agg #[.string k.1,.string k.2]] W fun e a=>vZ W (ofD D k).getLast? e a:=by
 obtain ⟨m,G,h⟩:=h;exact zLA h k b
theorem zQG (h:uP n0 g n D W) (b:n<=2400000000000) (k:Ky) (c:yO k):CC 149 #[.pointer (some ⟨g,0,none⟩),.agg #[.string k.1,.string k.2]] W fun e a=>vZ W (ofD D k).head? e a:=by
 obtain ⟨m,G,h⟩:=h;grind [zIB]
theorem zPZ (h:uP n0 g n D W) (k:Ky) (b:yO k) (t:Int):CC 144 #[.pointer (some ⟨g,0,none⟩),.agg #[.string k.1,.string k.2],.int .u64 t] W fun e a=>vX W (vK (ofD D k) t) e a:=by
 obtain ⟨m,G,h⟩:=h;grind [zC4]
theorem zNZ (h:uP n0 g n D W) (j:n<=1760000000000) (typ:ByteArray) (t:Int) (b:Option Addr) (c:Nat) (a:List Tm) (f:KM.Is W (.slice b a.length c) a) (i:qZ a):CC 85 #[.pointer (some ⟨g,0,none⟩),.string typ,.int .u64 t,.slice b a.length c] W fun e d=>zDC W (xK D typ t (zR a)) e d:=by
 obtain ⟨m,G,h⟩:=h;grind [zLa]
theorem zSQ (h:uP n0 g n D W) (b:n<=1760000000000) (typ:ByteArray) (t:Int):CC 147 #[.pointer (some ⟨g,0,none⟩),.string typ,.int .u64 t] W fun e a=>zFY W D typ t e a:=by
 obtain ⟨m,G,h⟩:=h;grind [zNX]
theorem zP1 (h:uP n0 g n D W) (hn:n<=2400000000000):CC 62 #[.pointer (some ⟨g,0,none⟩)] W fun e w'=>e=.returned (.int .i64 (zT D:Nat))/\Below W.heap.size W w':=by
 obtain ⟨m,G,h⟩:=h;exact zJT h hn
end
end
abbrev tS:=World->(Nat->Prop)->Prop
structure bS (n0:Nat) (Q:tS):Prop where
 fr:∀{W W':World} {B P:Nat->Prop},Q W B->Fr P W W'->(∀k,B k->¬ P k)->Q W' B
 blk:∀{W:World} {B:Nat->Prop},Q W B->∀k,B k->n0<=k/\k<W.heap.size
def Has (Q:tS) (W:World) (c:Nat->Nat) (p:Nat):Prop:=∃B,Q W B/\∀k,B k->c k=p
theorem Has.fr {n0:Nat} {Q:tS} (d:bS n0 Q) {W i:World} {c c':Nat->Nat} {p:Nat} {P:Nat->Prop} (h:Has Q W c p) (f:Fr P W i) (l:∀k,k<W.heap.size->c' k=c k) (j:∀k,k<W.heap.size->P k->c k≠p):Has Q i c' p:=by
 obtain ⟨B,b,g⟩:=h;exact ⟨B,d.fr b f fun k a e=>j k (d.blk b k a).2 e (g k a),fun k a=>(l k (d.blk b k a).2).trans (g k a)⟩
def cO:tS:=fun _ B=>∀k,¬ B k
def bK (n0 g:Nat) (cs:List Value) (T:TypeId):tS:=fun W B=>W.heap[g]? = some (.cells cs.toArray T (0,0))/\n0<=g/\∀k,B k↔k=g
def zPk (n0 g n:Nat) (D:List zQ):tS:=fun W B=>∃m G,xI n0 W g m n G D/\∀k,B k↔mJ g m G D k
def zQD (n0 g:Nat) (t:Tk):tS:=fun W B=>zBJ n0 W B g t
def zQQ (n0 g:Nat) (os:Sn) (fl:Int):tS:=fun W B=>uT n0 W B g os fl
def zQg (n0 g:Nat) (L:List yI):tS:=fun W B=>qP n0 W B g L
def zQc (n0:Nat) (m:Mx):tS:=fun W B=>RMk n0 W m/\∀k,B k↔kN m k
theorem zAf (n0:Nat):bS n0 cO:=⟨fun h _ _=>h,fun h k a=>(h k a).elim⟩
theorem fD (n0 g:Nat) (cs:List Value) (T:TypeId):bS n0 (bK n0 g cs T):=⟨fun h f a=>⟨(f.block g (gA h.1).1 (a g ((h.2.2 g).2 rfl))).trans h.1,h.2⟩,fun h k b=>by
  rw [(h.2.2 k).1 b];exact ⟨h.2.1,(gA h.1).1⟩⟩
theorem zGU (n0 g n:Nat) (D:List zQ):bS n0 (zPk n0 g n D):=⟨fun ⟨m,G,h,hB⟩ f hP=>⟨m,G,h.fr f fun b a=>hP b ((hB b).2 a),hB⟩,fun ⟨_,_,h,hB⟩ k hk=>h.blk k ((hB k).1 hk)⟩
theorem zC9 (n0 g:Nat) (t:Tk):bS n0 (zQD n0 g t):=by
 constructor
 ·rintro W j B P ⟨b,a,d,h,rfl⟩ f e;exact ⟨b,a,d,h.fr f e,rfl⟩
 rintro W B ⟨b,a,d,h,rfl⟩ k i;exact h.blk k i
theorem zGr (n0 g:Nat) (os:Sn) (fl:Int):bS n0 (zQQ n0 g os fl):=⟨fun h f a=>uT.fr h f a,fun h k b=>uT.blk h k b⟩
theorem nC (n0 g:Nat) (L:List yI):bS n0 (zQg n0 g L):=⟨fun ⟨m,F,O,h⟩ f hP=>⟨m,F,O,h.fr f hP⟩,fun ⟨_,_,_,h⟩ k hk=>h.bounds k hk⟩
theorem zOE (n0:Nat) (m:Mx):bS n0 (zQc n0 m):=⟨fun h f b=>⟨h.1.fr f fun k a=>b k ((h.2 k).2 a),h.2⟩,fun h k a=>h.1.blk k ((h.2 k).1 a)⟩
theorem kC (W:World) (c:Nat->Nat) (p:Nat):Has cO W c p:=⟨fun _=>False,fun _ h=>h,fun _ h=>h.elim⟩
structure Px where
 g:Nat
 snap:Int
 id:Int
 ended:Bool
 m:Mx
 gw:Nat
 L:List yI
 deriving Inhabited
def Px.tx (x:Px):Tx:=⟨x.snap,x.ended,x.m.mk',x.L⟩
def Px.load (x:Px):Nat:=if x.ended then 0 else x.L.length
def cA (h:Nat) (x:Px):List Value:=if x.ended then [.int .u64 x.snap,.int .i64 0,.pointer none,.pointer none,.slice none 0 0,.slice none 0 0] else [.int .u64 x.snap,.int .i64 x.id,.pointer (some ⟨h,0,none⟩),.pointer (some ⟨x.gw,0,none⟩),x.m.ksl,x.m.rsl]
structure Ps where
 h:Nat
 vers:Int
 hd:Nat
 hs:Nat
 hc:Nat
 hq:Nat
 ht:Nat
 nv:Nat
 D:List zQ
 last:Int
 tick:Int
 floor:Int
 os:Sn
 tk:Tk
 xs:List Px
def Ps.sv (s:Ps):Sv:=⟨s.vers,s.D,s.last,s.tick,s.floor,s.tk,s.xs.map Px.tx⟩
def zN2 (s:Ps):List Value:=[.pointer (some ⟨s.hd,0,none⟩),.pointer (some ⟨s.hs,0,none⟩),.pointer (some ⟨s.hc,0,none⟩),.pointer (some ⟨s.hq,0,none⟩),.pointer (some ⟨s.ht,0,none⟩),.int .i64 s.vers]
def nQ (n0 h:Nat) (x:Px) (r:Nat):tS:=if r=0 then bK n0 x.g (cA h x) 106 else if x.ended then cO else if r=1 then zQg n0 x.gw x.L else zQc n0 x.m
def uG (n0:Nat) (s:Ps) (p:Nat):tS:=if p=1 then bK n0 s.h (zN2 s) 99
 else if p=2 then zPk n0 s.hd s.nv s.D
 else if p=3 then zQD n0 s.ht s.tk
 else if p=4 then zQQ n0 s.hq s.os s.floor
 else if p=5 then bK n0 s.hs [.int .u64 s.last] 150
 else if p=6 then bK n0 s.hc [.int .i64 s.tick] 155
 else if p<7 then cO
 else match s.xs[(p-7) / 3]? with
  | none=>cO
  | some x=>nQ n0 s.h x ((p-7) % 3)
theorem zQv (n0 h:Nat) (x:Px) (r:Nat):bS n0 (nQ n0 h x r):=by grind [nQ,fD,zAf,nC,zOE]
theorem zFR (n0:Nat) (s:Ps) (p:Nat):bS n0 (uG n0 s p):=by grind [uG,fD,zGU,zC9,zGr,zAf,zQv]
theorem zBq (n0:Nat) (s:Ps) {i r:Nat} (b:r<3) {x:Px} (a:s.xs[i]? = some x):uG n0 s (7+3 * i+r)=nQ n0 s.h x r:=by grind [uG]
structure zS (n0:Nat) (W:World) (s:Ps) (c:Nat->Nat):Prop where
 part:∀p,Has (uG n0 s p) W c p
 out:∀k,W.heap.size<=k->c k=0
section
variable {n0:Nat} {W:World} {s:Ps} {c:Nat→Nat}
theorem zS.fr {a:World} {P:Nat->Prop} (x:zS n0 W s c) (f:Fr P W a) (d:∀k,k<W.heap.size->P k->c k=0):zS n0 a s c:=⟨fun p=>by
  by_cases h0:p=0
  ·subst h0;exact kC _ _ _
  exact (x.part p).fr (zFR n0 s p) f (fun _ _=>rfl) fun k b e=>by grind,fun k b=>x.out k (zaU f.size b)⟩
theorem zS.on {a:World} (x:zS n0 W s c) (b:Below W.heap.size W a):zS n0 a s c:=x.fr (P:=fun _=>False) (Fr.of_below b) fun _ _ k=>k.elim
theorem zS.step {a:World} {P:Nat->Prop} {s':Ps} {c':Nat->Nat} (x:zS n0 W s c) (f:Fr P W a) (b:∀k,k<W.heap.size->c' k=c k) (d:∀k,a.heap.size<=k->c' k=0)
  (hp:∀p,Has (uG n0 s' p) a c' p∨(uG n0 s' p=uG n0 s p/\∀k,k<W.heap.size->P k->c k≠p)):zS n0 a s' c':=⟨fun p=>(hp p).elim id fun ⟨e,h⟩=>by
  rw [e];exact (x.part p).fr (zFR n0 s p) f b h,d⟩
theorem zS.turn {w':World} {s':Ps} (x:zS n0 W s c) (p:Nat) {B B':Nat->Prop} (g:∀k,B k->c k=p) (f:Fr B W w') (b:uG n0 s' p w' B') (d:∀k,B' k->B k∨W.heap.size<=k) (j:∀q,q≠p->uG n0 s' q=uG n0 s q) (i:∀k,B k->k<W.heap.size):zS n0 w' s' (lab W B' c p):=by
 refine x.step f (fun k a=>wK a) (fun k a=>?_) fun q=>?_
 ·exact zAU (zaU f.size a) fun h=>by have:=((zFR n0 s' p).blk b k h).2;omega
 by_cases e:q=p
 ·subst e;refine xac ⟨B',b,fun k a=>zMf ((d k a).imp (fun h=>⟨i k h,g k h⟩) id) a⟩
 grind
theorem zS.setX {a:World} {P:Nat->Prop} {c':Nat->Nat} (x:zS n0 W s c) (i:Nat) (y:Px) (f:Fr P W a) (n:∀k,k<W.heap.size->P k->7+3 * i<=c k/\c k<=9+3 * i) (m:∀k,k<W.heap.size->c' k=c k) (l:∀k,a.heap.size<=k->c' k=0) (hi:i<s.xs.length)
  (hx:∀r,r<3->Has (nQ n0 s.h y r) a c' (7+3 * i+r)∨(nQ n0 s.h y r=nQ n0 s.h (s.xs[i]) r/\∀k,k<W.heap.size->P k->c k≠7+3 * i+r)):zS n0 a { s with xs:=s.xs.set i y } c':=by
 refine x.step f m l fun p=>?_
 by_cases h7:p<7
 ·refine xaf ⟨?_,fun k o h=>by grind⟩;unfold uG;simp only [h7,if_true];rfl
 have d:(s.xs.set i y)[i]? = some y:=by simp [hi]
 have g:s.xs[i]? = some s.xs[i]:=xai hi
 by_cases e:(p-7) / 3=i
 ·obtain ⟨r,b,j⟩:∃r,r<3/\p=7+3 * i+r:=⟨(p-7) % 3,Nat.mod_lt _ (by omega),by omega⟩;subst j;rw [zBq n0 { s with xs:=s.xs.set i y } b d,zBq n0 s b g];exact hx r b
 grind [uG]
theorem zS.obj (x:zS n0 W s c):W.heap[s.h]? = some (.cells (zN2 s).toArray 99 (0,0))/\n0<=s.h/\c s.h=1:=by
 obtain ⟨B,a,b⟩:=x.part 1;have a:bK n0 s.h (zN2 s) 99 W B:=a;exact ⟨a.1,a.2.1,b _ ((a.2.2 _).2 rfl)⟩
theorem zS.lt (x:zS n0 W s c):s.h<W.heap.size:=(Array.getElem?_eq_some_iff.1 x.obj.1).1
theorem zS.base (x:zS n0 W s c):n0<=W.heap.size:=Nat.le_of_lt (Nat.lt_of_le_of_lt x.obj.2.1 x.lt)
theorem zS.cells (x:zS n0 W s c):W.cell? ⟨s.h,0,none⟩=some (.pointer (some ⟨s.hd,0,none⟩))/\W.cell? ⟨s.h,1,none⟩=some (.pointer (some ⟨s.hs,0,none⟩))/\W.cell? ⟨s.h,2,none⟩=some (.pointer (some ⟨s.hc,0,none⟩))/\W.cell? ⟨s.h,3,none⟩=some (.pointer (some ⟨s.hq,0,none⟩))/\W.cell? ⟨s.h,4,none⟩=some (.pointer (some ⟨s.ht,0,none⟩))/\W.cell? ⟨s.h,5,none⟩=some (.int .i64 s.vers):=by
 refine ⟨?_,?_,?_,?_,?_,?_⟩<;>rw [zaC x.obj.1]<;>rfl
theorem zS.dir (x:zS n0 W s c):∃m G,xI n0 W s.hd m s.nv G s.D/\∀k,mJ s.hd m G s.D k->c k=2:=by
 obtain ⟨B,⟨m,G,b,a⟩,d⟩:=x.part 2
 grind
theorem zS.dirS (x:zS n0 W s c):uP n0 s.hd s.nv s.D W:=by
 obtain ⟨m,G,h,_⟩:=x.dir;exact ⟨m,G,h⟩
theorem zS.trk (x:zS n0 W s c):∃B,zBJ n0 W B s.ht s.tk/\∀k,B k->c k=3:=x.part 3
theorem zS.snp (x:zS n0 W s c):∃B,uT n0 W B s.hq s.os s.floor/\∀k,B k->c k=4:=x.part 4
theorem zS.cnt (x:zS n0 W s c):W.heap[s.hs]? = some (.cells #[.int .u64 s.last] 150 (0,0))/\n0<=s.hs/\c s.hs=5:=by
 obtain ⟨B,a,b⟩:=x.part 5;have a:bK n0 s.hs [iu s.last] 150 W B:=a;exact ⟨a.1,a.2.1,b _ ((a.2.2 _).2 rfl)⟩
theorem zS.clk (x:zS n0 W s c):W.heap[s.hc]? = some (.cells #[.int .i64 s.tick] 155 (0,0))/\n0<=s.hc/\c s.hc=6:=by
 obtain ⟨B,a,b⟩:=x.part 6;have a:bK n0 s.hc [ii s.tick] 155 W B:=a;exact ⟨a.1,a.2.1,b _ ((a.2.2 _).2 rfl)⟩
theorem zS.txp (x:zS n0 W s c) (i:Nat) (hi:i<s.xs.length) (r:Nat) (a:r<3):Has (nQ n0 s.h s.xs[i] r) W c (7+3 * i+r):=by
 have h:=x.part (7+3 * i+r)
 grind [zBq]
theorem zS.txo (x:zS n0 W s c) (i:Nat) (hi:i<s.xs.length):W.heap[(s.xs[i]).g]? = some (.cells (cA s.h s.xs[i]).toArray 106 (0,0))/\n0<=(s.xs[i]).g/\c (s.xs[i]).g=7+3 * i:=by
 obtain ⟨B,a,b⟩:=x.txp i hi 0 (by omega);have a:bK n0 (s.xs[i]).g (cA s.h s.xs[i]) 106 W B:=a;exact ⟨a.1,a.2.1,b _ ((a.2.2 _).2 rfl)⟩
theorem zS.txw (x:zS n0 W s c) (i:Nat) (hi:i<s.xs.length) (b:(s.xs[i]).ended=false):∃B,qP n0 W B (s.xs[i]).gw (s.xs[i]).L/\∀k,B k->c k=8+3 * i:=by
 obtain ⟨B,a,d⟩:=x.txp i hi 1 (by omega);unfold nQ at a;rw [xag (by omega),b,xag (by decide),xae rfl] at a;exact ⟨B,a,fun k e=>by grind⟩
theorem zS.txm (x:zS n0 W s c) (i:Nat) (hi:i<s.xs.length) (b:(s.xs[i]).ended=false):RMk n0 W (s.xs[i]).m/\∀k,kN (s.xs[i]).m k->c k=9+3 * i:=by
 obtain ⟨B,a,d⟩:=x.txp i hi 2 (by omega);unfold nQ at a;rw [xag (by omega),b,xag (by decide),xag (by omega)] at a;exact ⟨a.1,fun k e=>by rw [d k ((a.2 k).2 e)];omega⟩
theorem zS.xcells (x:zS n0 W s c) (i:Nat) (hi:i<s.xs.length) (a:(s.xs[i]).ended=false):W.cell? ⟨(s.xs[i]).g,0,none⟩=some (.int .u64 (s.xs[i]).snap)/\W.cell? ⟨(s.xs[i]).g,1,none⟩=some (.int .i64 (s.xs[i]).id)/\W.cell? ⟨(s.xs[i]).g,2,none⟩=some (.pointer (some ⟨s.h,0,none⟩))/\W.cell? ⟨(s.xs[i]).g,3,none⟩=some (.pointer (some ⟨(s.xs[i]).gw,0,none⟩))/\W.cell? ⟨(s.xs[i]).g,4,none⟩=some (s.xs[i]).m.ksl/\W.cell? ⟨(s.xs[i]).g,5,none⟩=some (s.xs[i]).m.rsl:=by
 have h:=(x.txo i hi).1;unfold cA at h;rw [a,xag (by decide)] at h;refine ⟨?_,?_,?_,?_,?_,?_⟩<;>rw [zaC h]<;>rfl
theorem zS.xends (x:zS n0 W s c) (i:Nat) (hi:i<s.xs.length) (a:(s.xs[i]).ended=true):W.cell? ⟨(s.xs[i]).g,0,none⟩=some (.int .u64 (s.xs[i]).snap)/\W.cell? ⟨(s.xs[i]).g,2,none⟩=some (.pointer none):=by
 have h:=(x.txo i hi).1;unfold cA at h;rw [a,xae rfl] at h;refine ⟨?_,?_⟩<;>rw [zaC h]<;>rfl
end
structure xF (nr:Nat) (s:Ps):Prop where
 room:s.nv+(s.xs.map Px.load).sum<=nr
 nx:s.xs.length<=nr
 mks:∀x∈s.xs,x.ended=false->(x.m.ks.length<=nr/\x.m.rs.length<=nr/\(∀k∈x.m.ks,yE k)/\bV x.m.mk')
 ids:∀i,(hi:i<s.xs.length)->(s.xs[i]).ended=false->(s.xs[i]).id=(i:Int)+1
 os:s.os=xR s.sv
 ok:OkS s.sv
 v4:s.vers<=4096
def zDa (n0 nr:Nat) (W:World) (h:Nat) (gs:List Nat) (S:Sv) (c:Nat->Nat):Prop:=∃s:Ps,zS n0 W s c/\xF nr s/\s.h=h/\s.xs.map Px.g=gs/\s.sv=S
def uN (n0 nr:Nat) (W:World) (h:Nat) (gs:List Nat) (c:Nat->Nat) (S':Sv) (w':World):Prop:=∃c',zDa n0 nr w' h gs S' c'/\Fr (fun k=>c k≠0) W w'/\∀k,k<W.heap.size->c' k=c k
section
variable {i nr':Nat} {x:Px} {w1:World} {B:Nat→Prop}
theorem zCT (w:World) (G j:Nat) (u:Value):Fr (fun b=>b=G) w (w.setCell ⟨G,j,none⟩ u):=⟨rfl,rfl,rfl,by simp,fun k _ a=>xaC _ _ k _ a⟩
theorem zBr:∀(l:List Px) (i:Nat) (hi:i<l.length) (y:Px),((l.set i y).map Px.load).sum+(l[i]).load=(l.map Px.load).sum+y.load
 | [],i,hi,y=>by simp at hi
 | x::l,0,hi,y=>by simp;omega
 | x::l,i+1,hi,y=>by
  have:=zBr l i (by grind) y
  grind
theorem zKY:∀(l:List Px) (i:Nat) (hi:i<l.length),(l[i]).load<=(l.map Px.load).sum
 | [],i,hi=>by simp at hi
 | x::l,0,hi=>by simp
 | x::l,i+1,hi=>by
  have:=zKY l i (by grind)
  grind
theorem zBN (S:Sv) (i:Nat) (y:Tx):xR (yA S i y)=(xR S).set i (if y.ended then none else some y.snap):=by grind [xR,yA,List.map_set]
theorem zBB (S:Sv):(xR S).length=S.txs.length:=by grind [xR]
theorem zLs (S:Sv) (i:Nat) (hi:i<S.txs.length):(xR S)[i]? = some (if (S.txs[i]).ended then none else some (S.txs[i]).snap):=by grind [xR]
theorem zAP {α:Type}:∀(l:List α) (i:Nat) (x:α),l[i]? = some x->l.set i x=l
 | [],i,x,h=>by simp
 | y::l,0,x,h=>by grind
 | y::l,i+1,x,h=>by
  simp only [List.set_cons_succ];rw [zAP l i x (by simpa using h)]
theorem zNl {s:Ps} (hi:i<s.xs.length):s.sv.txs[i]? = some (s.xs[i]).tx:=by
 show (s.xs.map Px.tx)[i]? = _
 grind
theorem uC (s:Ps) (i:Nat) (y:Px):({ s with xs:=s.xs.set i y }:Ps).sv=yA s.sv i y.tx:=by grind [Ps.sv,yA,List.map_set]
theorem zG5 (l:List Px) (i:Nat) (hi:i<l.length) (y:Px) (a:y.g=(l[i]).g):(l.set i y).map Px.g=l.map Px.g:=by grind [List.map_set,zAP]
section
variable {nr:Nat} {s:Ps}
theorem xF.load (h:xF nr s) {i:Nat} (hi:i<s.xs.length) (d:(s.xs[i]).ended=false):s.nv+(s.xs[i]).L.length<=nr:=by
 have b:=zKY s.xs i hi;have a:=h.room
 grind [Px.load]
theorem xF.marks (h:xF nr s) {i:Nat} (hi:i<s.xs.length) (a:(s.xs[i]).ended=false):(s.xs[i]).m.ks.length<=nr/\(s.xs[i]).m.rs.length<=nr/\(∀k∈(s.xs[i]).m.ks,yE k)/\bV (s.xs[i]).m.mk':=h.mks _ (zaN hi) a
theorem xF.okx (h:xF nr s) {i:Nat} (hi:i<s.xs.length):OkX s.D s.floor s.last (s.xs[i]).tx:=h.ok.txs _ (xaI (zaN hi))
theorem xF.mono (h:xF nr s) (a:nr<=nr'):xF nr' s:=⟨zaU h.room a,zaU h.nx a,fun x d b=>⟨zaU (h.mks x d b).1 a,zaU (h.mks x d b).2.1 a,(h.mks x d b).2.2⟩,h.ids,h.os,h.ok,h.v4⟩
theorem xF.setX (h:xF nr s) {i:Nat} (hi:i<s.xs.length) (y:Px) (o:nr<=nr') (r:y.load+nr<=(s.xs[i]).load+nr') (g:y.m.ks.length<=nr'/\y.m.rs.length<=nr'/\(∀k∈y.m.ks,yE k)/\bV y.m.mk') (f:y.id=(s.xs[i]).id) (l:y.snap=(s.xs[i]).snap) (n:y.ended=(s.xs[i]).ended) (d:OkX s.D s.floor s.last y.tx):xF nr' { s with xs:=s.xs.set i y }:=by
 refine ⟨?_,?_,fun x a b=>?_,fun j hj b=>?_,?_,?_,h.v4⟩
 ·have t:=zBr s.xs i hi y;have p:=h.room
  grind
 ·show (s.xs.set i y).length<=nr'
  rw [xaW];exact zaU h.nx o
 ·rcases xb7 a with a|rfl
  ·have q:=h.mks x a b
   grind
  exact g
 ·have hj':j<s.xs.length:=by
   have:j<(s.xs.set i y).length:=hj
   rwa [xaW] at this
  have he':((s.xs.set i y)[j]'hj).ended=false:=b;show ((s.xs.set i y)[j]'hj).id=_;rw [List.getElem_set] at he' ⊢
  split
  ·next e =>
   subst e;rw [xae rfl] at he';rw [f];exact h.ids i hi (by grind)
  next e =>
  rw [xag e] at he';exact h.ids j hj' he'
 ·rw [uC,zBN];show s.os=_;rw [h.os,zAP];have hi':i<s.sv.txs.length:=by show i<(s.xs.map Px.tx).length;rw [zaM];exact hi
  rw [zLs _ _ hi']
  have:s.sv.txs[i]=(s.xs[i]).tx:=by
   have q:=zNl hi;rw [xai hi'] at q;injection q
  rw [this];show some (if (s.xs[i]).ended then none else some (s.xs[i]).snap)=some (if y.ended then none else some y.snap);rw [l,n]
 rw [uC];exact zCA h.ok i d
theorem xF.ends (h:xF nr s) {i:Nat} (hi:i<s.xs.length) (g:(s.xs[i]).ended=false):xF nr { s with xs:=s.xs.set i { s.xs[i] with ended:=true },os:=yM s.os (s.xs[i]).id }:=by
 refine ⟨?_,?_,fun x a b=>?_,fun j hj f=>?_,?_,?_,h.v4⟩
 ·have l:=zBr s.xs i hi { s.xs[i] with ended:=true };have k:=h.room
  grind [Px.load]
 ·show (s.xs.set i _).length<=nr
  rw [xaW];exact h.nx
 ·rcases xb7 a with a|rfl
  ·exact h.mks x a b
  cases b
 ·have d:j<s.xs.length:=by
   have:j<(s.xs.set i _).length:=hj
   rwa [xaW] at this
  have he':((s.xs.set i { s.xs[i] with ended:=true })[j]'hj).ended=false:=f;show ((s.xs.set i { s.xs[i] with ended:=true })[j]'hj).id=_;rw [List.getElem_set] at he' ⊢
  split
  ·grind
  next e =>
  rw [xag e] at he';exact h.ids j d he'
 ·show yM s.os (s.xs[i]).id=xR ({ s with xs:=s.xs.set i { s.xs[i] with ended:=true } }:Ps).sv
  rw [uC,zBN,h.ids i hi g,h.os];show yM _ _=(xR s.sv).set i none
  grind [yM]
 show OkS ({ s with xs:=s.xs.set i { s.xs[i] with ended:=true } }:Ps).sv
 rw [uC];exact zCA h.ok i (zF1 (h.okx hi))
end
section
variable {n0:Nat} {W:World} {s:Ps} {c:Nat→Nat}
theorem zS.xlt (x:zS n0 W s c) {i:Nat} (hi:i<s.xs.length):(s.xs[i]).g<W.heap.size:=(Array.getElem?_eq_some_iff.1 (x.txo i hi).1).1
theorem pQ (h:Nat) {x:Px} (a:x.ended=false):cA h x=[.int .u64 x.snap,.int .i64 x.id,.pointer (some ⟨h,0,none⟩),.pointer (some ⟨x.gw,0,none⟩),x.m.ksl,x.m.rsl]:=by grind [cA]
theorem zIA (n0 h:Nat) {x:Px} (a:x.ended=false):nQ n0 h x 1=zQg n0 x.gw x.L:=by grind [nQ]
theorem zFF (n0 h:Nat) {x:Px} (a:x.ended=false):nQ n0 h x 2=zQc n0 x.m:=by grind [nQ]
theorem zS.marked (x:zS n0 W s c) {i:Nat} (hi:i<s.xs.length) (l:(s.xs[i]).ended=false) {w1:World} (v:Below W.heap.size W w1) {b:Mx} (A:jE W.heap.size w1 b) (d:World) (u:(w1.setCell ⟨(s.xs[i]).g,4,none⟩ b.ksl).setCell ⟨(s.xs[i]).g,5,none⟩ b.rsl=d):zS n0 d { s with xs:=s.xs.set i { s.xs[i] with m:=b } } (lab W (kN b) c (9+3 * i))/\Fr (fun k=>k=(s.xs[i]).g) W d:=by
 obtain ⟨p,w,E⟩:=x.txo i hi;have y:=x.xlt hi;have n:=x.base;rw [pQ _ l] at p
 have t:Fr (fun k=>k=(s.xs[i]).g) w1 d:=by
  rw [<-u];exact (zCT w1 _ 4 _).then (zCT _ _ 5 _) fun k a=>xac a
 have f:Fr (fun k=>k=(s.xs[i]).g) W d:=Fr.then (Fr.of_below v) t fun k a=>xac a
 have D:d.heap[(s.xs[i]).g]? = some (oc (cA s.h { s.xs[i] with m:=b }).toArray 106):=by
  rw [<-u,pQ s.h (x:={ s.xs[i] with m:=b }) l];exact xaa _ _ 5 _ _ _ (xaa _ _ 4 _ _ _ ((v.block _ y).trans p))
 have e:jE W.z d b:=A.fr t fun k a=>by omega
 have o:RMk n0 d b:=⟨zC.own_weak e.keys n,zC.own_weak e.rows n,fun r j=>⟨zC.own_weak (e.each r j).1 n,(e.each r j).2⟩⟩;have C:RMk W.z d b:=⟨e.keys,e.rows,e.each⟩;refine ⟨x.setX i _ f (fun k _ a=>?_) (fun k a=>wK a) (fun k a=>zAU (zaU f.size a) fun q=>by have:=(o.blk k q).2;omega) hi fun r j=>?_,f⟩
 ·grind
 match r,j with
 | 0,_=>exact xac ⟨fun k=>k=(s.xs[i]).g,⟨D,w,fun k=>xbE⟩,fun k a=>by grind [wK]⟩
 | 1,_=>grind [zIA]
 | 2,_ =>
 refine xac ⟨kN b,?_,fun k a=>by rw [zBw (C.blk k a).1 a];omega⟩;rw [zFF n0 s.h (x:={ s.xs[i] with m:=b }) l];exact ⟨o,fun k=>xbE⟩
theorem zS.wrote (x:zS n0 W s c) {i:Nat} (hi:i<s.xs.length) (d:(s.xs[i]).ended=false) {B:Nat->Prop} (j:qP n0 W B (s.xs[i]).gw (s.xs[i]).L) (b:∀k,B k->c k=8+3 * i) {L':List yI} {w':World} (n:tJ n0 W B (s.xs[i]).gw L' w'):∃c',zS n0 w' { s with xs:=s.xs.set i { s.xs[i] with L:=L' } } c'/\Fr (fun k=>c k=8+3 * i) W w'/\∀k,k<W.heap.size->c' k=c k:=by
 obtain ⟨e,g,f,m⟩:=n;obtain ⟨o1,o2,o3⟩:=x.txo i hi;have o:=x.xlt hi;refine ⟨lab W e c (8+3 * i),x.setX i _ f (fun k _ a=>?_) (fun k a=>wK a) (fun k a=>zAU (zaU f.size a) fun q=>by have:=((nC n0 _ _).blk g k q).2;omega) hi fun r l=>?_,f.mono fun k a=>b k a,fun k a=>wK a⟩
 ·rw [b k a];omega
 match r,l with
 | 0,_=>exact xaf ⟨rfl,fun k _ a=>by rw [b k a];omega⟩
 | 1,_ =>
  refine xac ⟨e,?_,fun k a=>?_⟩
  ·rw [zIA n0 s.h (x:={ s.xs[i] with L:=L' }) d];exact g
  rw [show 7+3 * i+1=8+3 * i by omega];exact zMf ((m k a).imp (fun q=>⟨((nC n0 _ _).blk j k q).2,b k q⟩) id) a
 | 2,_ =>
 refine xaf ⟨?_,fun k _ a=>by rw [b k a];omega⟩;rw [zFF n0 s.h d,zFF n0 s.h (x:={ s.xs[i] with L:=L' }) d]
theorem zS.dropped (x:zS n0 W s c) {i:Nat} (hi:i<s.xs.length) (j:(s.xs[i]).ended=false) {w1:World} (o:Below W.heap.size W w1) {B:Nat->Prop} {b:Nat} (v:qP n0 w1 B b []) (y:∀k,B k->W.heap.size<=k) (d:World) (n:w1.setCell ⟨(s.xs[i]).g,3,none⟩ (.pointer (some ⟨b,0,none⟩))=d):zS n0 d { s with xs:=s.xs.set i { s.xs[i] with gw:=b,L:=[] } } (lab W B c (8+3 * i))/\Fr (fun k=>k=(s.xs[i]).g) W d:=by
 obtain ⟨l,p,z⟩:=x.txo i hi;have t:=x.xlt hi;rw [pQ _ j] at l
 have m:Fr (fun k=>k=(s.xs[i]).g) w1 d:=by
  rw [<-n];exact zCT w1 _ 3 _
 have f:Fr (fun k=>k=(s.xs[i]).g) W d:=Fr.then (Fr.of_below o) m fun k a=>xac a
 have w:d.heap[(s.xs[i]).g]? = some (oc (cA s.h { s.xs[i] with gw:=b,L:=[] }).toArray 106):=by
  rw [<-n,pQ s.h (x:={ s.xs[i] with gw:=b,L:=[] }) j];exact xaa _ _ 3 _ _ _ ((o.block _ t).trans l)
 have hw3':qP n0 d B b []:=(nC n0 b []).fr (W:=w1) (B:=B) v m fun k a e=>by grind
 refine ⟨x.setX i _ f (fun k _ a=>?_) (fun k a=>wK a) (fun k a=>zAU (zaU f.size a) fun q=>by have:=((nC n0 _ _).blk hw3' k q).2;omega) hi fun r u=>?_,f⟩
 ·grind
 match r,u with
 | 0,_=>exact xac ⟨fun k=>k=(s.xs[i]).g,⟨w,p,fun k=>xbE⟩,fun k a=>by grind [wK]⟩
 | 1,_ =>
  refine xac ⟨B,?_,fun k a=>by grind [zBw]⟩;rw [zIA n0 s.h (x:={ s.xs[i] with gw:=b,L:=[] }) j];exact hw3'
 | 2,_=>grind [zFF]
theorem zS.ended {b:World} (x:zS n0 W s c) {i:Nat} (hi:i<s.xs.length) (f:Fr (fun k=>k=(s.xs[i]).g) W b) (j:b.heap[(s.xs[i]).g]? = some (.cells (cA s.h { s.xs[i] with ended:=true }).toArray 106 (0,0))):zS n0 b { s with xs:=s.xs.set i { s.xs[i] with ended:=true } } c:=by
 obtain ⟨m,e,l⟩:=x.txo i hi;refine x.setX i _ f (fun k _ a=>?_) (fun k a=>rfl) (fun k a=>x.out k (zaU f.size a)) hi fun r d=>?_
 ·grind
 match r,d with
 | 0,_=>exact xac ⟨fun k=>k=(s.xs[i]).g,⟨j,e,fun k=>xbE⟩,fun k a=>by grind⟩
 | 1,_=>exact xac (kC _ _ _)
 | 2,_=>exact xac (kC _ _ _)
end
end
section
variable {W:World} {g:Nat} {t:Int}
theorem zQf (b o:Nat) (x y:Int) (w:World) (c:w.cell? ⟨b,o,none⟩=some (.int .u64 x)) (a:w.frozen? ⟨b,o,none⟩=false):CC 165 #[.pointer (some ⟨b,o,none⟩),.int .u64 x,.int .u64 y] w fun e d=>e=.returned (.bool true)/\d=w.setCell ⟨b,o,none⟩ (.int .u64 y):=by
 have f:=run_call_cas_hit (P:=prog) func214 (by kernel_rfl) (by kernel_rfl) (by kernel_rfl) .u64 (by kernel_rfl) (y:=y) c a;go_enter func165,ntmps165;go_wp2;go_ret;exact ⟨rfl,rfl⟩
theorem zOP (b o:Nat) (x:Int) (w:World) (c:w.cell? ⟨b,o,none⟩=some (.int .i64 x)):CC 127 #[.pointer (some ⟨b,o,none⟩)] w fun e a=>e=.returned (.int .i64 x)/\a=w:=by
 have d:=run_call_load (P:=prog) func180 (by kernel_rfl) (by kernel_rfl) (by kernel_rfl) .i64 (by kernel_rfl) c;go_enter func127,ntmps127;go_wp2;go_ret;exact ⟨rfl,rfl⟩
theorem zRy (b o:Nat) (x y:Int) (w:World) (c:w.cell? ⟨b,o,none⟩=some (.int .i64 x)) (a:w.frozen? ⟨b,o,none⟩=false):CC 129 #[.pointer (some ⟨b,o,none⟩),.int .i64 x,.int .i64 y] w fun e d=>e=.returned (.bool true)/\d=w.setCell ⟨b,o,none⟩ (.int .i64 y):=by
 have f:=run_call_cas_hit (P:=prog) func181 (by kernel_rfl) (by kernel_rfl) (by kernel_rfl) .i64 (by kernel_rfl) (y:=y) c a;go_enter func129,ntmps129;go_wp2;go_ret;exact ⟨rfl,rfl⟩
def cC (W:World) (g:Nat) (t:Int):Prop:=W.heap[g]? = some (.cells #[.int .u64 t] 150 (0,0))
def zAD (W:World) (g:Nat) (t:Int):Prop:=W.heap[g]? = some (.cells #[.int .i64 t] 155 (0,0))
theorem zNR (t:Int) (W:World):CC 34 #[.int .u64 t] W fun e c=>e=.returned (.pointer (some ⟨W.heap.size,0,none⟩))/\cC c W.heap.size t/\c.heap.size=W.heap.size+1/\Below W.heap.size W c:=by
 obtain ⟨V,b⟩:=eE (W.alloc (.cells #[iu 0] 150));obtain ⟨M,hM⟩:=eE W.z;have a:V.heap[M]? = some (oc #[iu 0] 150):=by rw [<-b,<-hM];exact xab W _
 have h:Bw W V:=by rw [<-b];exact zaQ
 have f:V.z=M+1:=by rw [<-b,<-hM];simp
 have i:=hid (zGO M 0 0 t V (by rw [zaC a];rfl) (zaF a 0))
 have d:Hid (cC (V.setCell (aa M 0) (iu t)) M t/\(V.setCell (aa M 0) (iu t)).z=M+1/\Bw W (V.setCell (aa M 0) (iu t))) :=
  ⟨xaa V M 0 _ _ _ a,by simp [f],h.setCell (by show W.z<=M;omega) _⟩
 go_enter func34,ntmps34
 go_wp2_with fail
 refine i.o.mono ?_;rintro e j ⟨rfl,rfl⟩;go_wp2_with fail;go_ret;rw [<-hM];rw [<-hM] at d;exact ⟨rfl,d.o⟩
theorem fP (h:cC W g t):CC 39 #[.pointer (some ⟨g,0,none⟩)] W fun e b=>e=.returned (.int .u64 t)/\b=W:=by
 have a:=hid (zA0 g 0 t W (by rw [zaC h];rfl));go_enter func39,ntmps39;go_wp2_with fail;refine a.o.mono ?_;rintro e c ⟨rfl,rfl⟩;go_wp2_with fail;go_ret;exact ⟨rfl,rfl⟩
theorem zOe (W:World):CC 35 #[] W fun e a=>e=.returned (.pointer (some ⟨W.heap.size,0,none⟩))/\zAD a W.heap.size 0/\a.heap.size=W.heap.size+1/\Below W.heap.size W a:=by
 have b:Hid (zAD (W.alloc (.cells #[ii 0] 155)) W.z 0/\(W.alloc (.cells #[ii 0] 155)).z=W.z+1/\Bw W (W.alloc (.cells #[ii 0] 155))) :=
  ⟨xab W _,by simp,zaQ⟩
 go_enter func35,ntmps35
 go_wp2_with fail
 go_ret;exact ⟨rfl,b.o⟩
theorem zMj (h:zAD W g t):CC 113 #[.pointer (some ⟨g,0,none⟩)] W fun e b=>e=.returned (.int .i64 t)/\b=W:=by
 have a:=hid (zOP g 0 t W (by rw [zaC h];rfl));go_enter func113,ntmps113;go_wp2_with fail;refine a.o.mono ?_;rintro e c ⟨rfl,rfl⟩;go_wp2_with fail;go_ret;exact ⟨rfl,rfl⟩
theorem zL4 (a n:Int) (h:0<=a) (f:a<=1099511627776) (d:n<=9223372036854775807) (W:World):CC 128 #[.int .i64 a,.int .i64 n] W fun e c=>e=.returned (.int .i64 (wE a n))/\c=W:=by
 by_cases c1:n<1
 ·have b:Hid (wE a n=a):=by show _=_;unfold wE;rw [xae c1]
  go_enter func128,ntmps128
  go_wp2_with fail
  go_ret;rw [b.o];exact ⟨rfl,rfl⟩
 by_cases c2:1099511627776-a<n
 ·have b:Hid (wE a n=1099511627776):=by show _=_;unfold wE;rw [xag c1,xae (by omega)]
  go_enter func128,ntmps128
  go_wp2_with fail
  go_ret;rw [b.o];exact ⟨rfl,rfl⟩
 have b:Hid (wE a n=a+n):=by
  show _=_
  unfold wE;rw [xag c1]
  split
  ·omega
  rfl
 go_enter func128,ntmps128
 go_wp2_with fail
 go_ret;rw [b.o];exact ⟨rfl,rfl⟩
def zH7 (W:World) (g:Nat) (t:Int) (e:Ending) (w':World):Prop:=(t=tD/\e=.returned (.tuple #[.int .u64 0,.int .i64 10])/\w'=W)∨(t≠tD/\e=.returned (.tuple #[.int .u64 (t+1),.int .i64 0])/\w'=W.setCell ⟨g,0,none⟩ (.int .u64 (t+1)))
theorem zKg (h:cC W g t) (j:0<=t) (f:t<=tD):CC 112 #[.pointer (some ⟨g,0,none⟩)] W fun e d=>zH7 W g t e d:=by
 unfold tD at *;have b:=hid (zA0 g 0 t W (by rw [zaC h];rfl));have c:=hid (zQf g 0 t (t+1) W (by rw [zaC h];rfl) (zaF h 0));go_enter func112,ntmps112;go_wp2_with fail
 go_loopg [] 0 (fun gg ws=>ws=W)
 case atStart=>rfl
 subst hrel;go_wp2_with fail;refine b.o.mono ?_;rintro e k ⟨rfl,rfl⟩
 by_cases a:t=18446744073709551615
 ·subst a;go_wp2_with fail
  go_ret2
  exact xac (xbf rfl (xbf rfl rfl))
 have i:(t==18446744073709551615)=false:=by simpa using a
 go_wp2_with fail
 refine c.o.mono ?_;rintro e l ⟨rfl,rfl⟩;go_wp2_with fail
 go_ret2
 exact xaf (xbf a (xbf rfl rfl))
theorem zKo (h:zAD W g t) (n:Int) (d:0<=t) (b:t<=1099511627776) (j:n<=9223372036854775807):CC 80 #[.pointer (some ⟨g,0,none⟩),.int .i64 n] W fun e k =>
  e=.returned (.int .i64 (wE t n))/\k=W.setCell ⟨g,0,none⟩ (.int .i64 (wE t n)):=by
 have c:=hid (zOP g 0 t W (by rw [zaC h];rfl));have f:=hid (zRy g 0 t (wE t n) W (by rw [zaC h];rfl) (zaF h 0));have a:=hid (zL4 t n d b j W)
 generalize wE t n=tn at *
 go_enter func80,ntmps80
 go_wp2_with fail
 go_loopg [] 0 (fun gg ws=>ws=W)
 case atStart=>rfl
 subst hrel;go_wp2_with fail;refine c.o.mono ?_;rintro e i ⟨rfl,rfl⟩;go_wp2_with fail;refine a.o.mono ?_;rintro e i ⟨rfl,rfl⟩;go_wp2_with fail;refine f.o.mono ?_;rintro e w2 ⟨rfl,rfl⟩;go_wp2_with fail;go_ret;exact ⟨rfl,rfl⟩
end
section
variable {W' W:World} {g h:Nat} {b:Bool}
structure XAt (W:World) (g:Nat) (snap id:Int) (h gw:Nat) (ks rs:Value) (hd hs hc hq ht:Nat) (vers:Int):Prop where
 x:W.heap[g]? = some (.cells #[.int .u64 snap,.int .i64 id,.pointer (some ⟨h,0,none⟩),.pointer (some ⟨gw,0,none⟩),ks,rs] 106 (0,0))
 s:W.heap[h]? = some (.cells #[.pointer (some ⟨hd,0,none⟩),.pointer (some ⟨hs,0,none⟩),.pointer (some ⟨hc,0,none⟩),.pointer (some ⟨hq,0,none⟩),.pointer (some ⟨ht,0,none⟩),.int .i64 vers] 99 (0,0))
section
variable {W:World} {g:Nat} {snap id:Int} {h gw:Nat} {ks rs:Value} {hd hs hc hq ht:Nat} {vers:Int}
theorem XAt.fr {P:Nat->Prop} (x:XAt W g snap id h gw ks rs hd hs hc hq ht vers) (f:Fr P W W') (a:¬ P g) (c:¬ P h):XAt W' g snap id h gw ks rs hd hs hc hq ht vers:=⟨(f.block g (gA x.x).1 a).trans x.x,(f.block h (gA x.s).1 c).trans x.s⟩
theorem XAt.on (x:XAt W g snap id h gw ks rs hd hs hc hq ht vers) (a:Below W.heap.size W W'):XAt W' g snap id h gw ks rs hd hs hc hq ht vers:=x.fr (P:=fun _=>False) (Fr.of_below a) (fun k=>k) (fun k=>k)
theorem XAt.xc (x:XAt W g snap id h gw ks rs hd hs hc hq ht vers):W.cell? ⟨g,0,none⟩=some (.int .u64 snap)/\W.cell? ⟨g,1,none⟩=some (.int .i64 id)/\W.cell? ⟨g,2,none⟩=some (.pointer (some ⟨h,0,none⟩))/\W.cell? ⟨g,3,none⟩=some (.pointer (some ⟨gw,0,none⟩))/\W.cell? ⟨g,4,none⟩=some ks/\W.cell? ⟨g,5,none⟩=some rs:=by
 refine ⟨?_,?_,?_,?_,?_,?_⟩<;>rw [zaC x.x]<;>rfl
theorem XAt.sc (x:XAt W g snap id h gw ks rs hd hs hc hq ht vers):W.cell? ⟨h,0,none⟩=some (.pointer (some ⟨hd,0,none⟩))/\W.cell? ⟨h,1,none⟩=some (.pointer (some ⟨hs,0,none⟩))/\W.cell? ⟨h,2,none⟩=some (.pointer (some ⟨hc,0,none⟩))/\W.cell? ⟨h,3,none⟩=some (.pointer (some ⟨hq,0,none⟩))/\W.cell? ⟨h,4,none⟩=some (.pointer (some ⟨ht,0,none⟩))/\W.cell? ⟨h,5,none⟩=some (.int .i64 vers):=by
 refine ⟨?_,?_,?_,?_,?_,?_⟩<;>rw [zaC x.s]<;>rfl
end
theorem zET {t:Int} (hc:W.cell? ⟨g,0,none⟩=some (.int .u64 t)):CC 12 #[.pointer (some ⟨g,0,none⟩)] W fun e a=>e=.returned (.int .u64 t)/\a=W:=by
 go_enter func12,ntmps12
 go_wp2_with fail
 go_ret;exact ⟨rfl,rfl⟩
theorem zK4 (hc:W.cell? ⟨g,2,none⟩=some (.pointer (some ⟨h,0,none⟩))):CC 21 #[.pointer (some ⟨g,0,none⟩)] W fun e a=>e=.returned (.bool false)/\a=W:=by
 go_enter func21,ntmps21
 go_wp2_with fail
 go_ret;exact ⟨rfl,rfl⟩
theorem zIZ (hc:W.cell? ⟨g,2,none⟩=some (.pointer none)):CC 21 #[.pointer (some ⟨g,0,none⟩)] W fun e a=>e=.returned (.bool true)/\a=W:=by
 go_enter func21,ntmps21
 go_wp2_with fail
 go_ret;exact ⟨rfl,rfl⟩
def zHA (p:Value) (b:Bool) (W:World):Prop:=∀W',Below W.heap.size W W'->CC 21 #[p] W' fun e w'=>e=.returned (.bool b)/\w'=W'
theorem zN7 (hc:W.cell? ⟨g,2,none⟩=some (.pointer (some ⟨h,0,none⟩))):zHA (.pointer (some ⟨g,0,none⟩)) false W:=fun _ a=>zK4 ((a.cell (zI hc)).trans hc)
theorem zMK (hc:W.cell? ⟨g,2,none⟩=some (.pointer none)):zHA (.pointer (some ⟨g,0,none⟩)) true W:=fun _ a=>zIZ ((a.cell (zI hc)).trans hc)
def vR (b:Bool) (k:Ky):Int:=if b then 12 else if xN k.1 k.2=false then 2 else 0
theorem tW {p:Option Addr} (s:zHA (.pointer p) b W) (k:Ky) (m:k.1.size<=maxLen/\k.2.size<=maxLen):CC 76 #[.pointer p,.agg #[.string k.1,.string k.2]] W fun e v=>e=.returned (.int .i64 (vR b k))/\Below W.heap.size W v:=by
 obtain ⟨V,l⟩:=eE (W.alloc (.cells #[tq k.1,tq k.2] 36));obtain ⟨M,hM⟩:=eE W.z;have i:V.heap[M]? = some (oc #[tq k.1,tq k.2] 36):=by rw [<-l,<-hM];exact xab W _
 have q:Bw W V:=by rw [<-l];exact zaQ
 have w:V.cell? (aa M 0)=some (tq k.1):=cz i;have x:V.cell? (aa M 1)=some (tq k.2):=cz i;have f:=hid (s V q);have t:=hid (zBp k.1 k.2 V m.1 m.2);have c:=hid q;obtain ⟨r,n⟩:=eE (vR b k);rw [n];have d:Hid (vR b k=r):=n;obtain ⟨ka,kb⟩:=k;simp only at *
 cases b with
 | true =>
  have a:Hid (r=12):=d.o.symm;go_enter func76,ntmps76;go_wp2_with fail;refine f.o.mono ?_;rintro e u ⟨rfl,rfl⟩;go_wp2_with fail;go_ret;rw [a.o];exact ⟨rfl,c.o⟩
 | false =>
 go_enter func76,ntmps76
 go_wp2_with fail
 refine f.o.mono ?_;rintro e u ⟨rfl,rfl⟩;go_wp2_with fail;refine t.o.mono ?_;rintro e w2 ⟨rfl,hb2⟩;have j:Hid (Bw W w2):=zA c.o c.o.size hb2
 cases hkb:xN ka kb with
 | false =>
  have a:Hid (r=2):=by show _=_;rw [<-d.o];unfold vR;simp [hkb]
  go_wp2_with fail
  go_ret;rw [a.o];exact ⟨rfl,j.o⟩
 | true =>
 have a:Hid (r=0):=by show _=_;rw [<-d.o];unfold vR;simp [hkb]
 go_wp2_with fail
 go_ret;rw [a.o];exact ⟨rfl,j.o⟩
def zBO (b:Bool) (p:List Tm):Int:=if b then 12 else nJ p
theorem zDG {q:Option Addr} (m:zHA (.pointer q) b W) (v:Value) (p:List Tm) (f:KM.Is W v p) (r:qZ p):CC 82 #[.pointer q,v] W fun e k=>e=.returned (.int .i64 (zBO b p))/\Below W.heap.size W k:=by
 have i:=hid (m W (zaR _ _));have n:=hid (zGn v p W f r)
 obtain ⟨a,l,c,rfl⟩:∃a l c,v=sc a l c:=by
  obtain ⟨a,c,rfl,_⟩:=f;exact ⟨a,_,c,rfl⟩
 cases b with
 | true =>
  go_enter func82,ntmps82
  go_wp2_with fail
  refine i.o.mono ?_;rintro e d ⟨rfl,rfl⟩;go_wp2_with fail;go_ret;exact ⟨rfl,zaR _ _⟩
 | false =>
 go_enter func82,ntmps82
 go_wp2_with fail
 refine i.o.mono ?_;rintro e d ⟨rfl,rfl⟩;go_wp2_with fail;refine n.o.mono ?_;rintro e d ⟨rfl,hb⟩;have j:=hid hb;go_wp2_with fail;go_ret;exact ⟨rfl,j.o⟩
def uD (hd hs hc hq ht:Nat):Value:=.agg #[.pointer (some ⟨hd,0,none⟩),.pointer (some ⟨hs,0,none⟩),.pointer (some ⟨hc,0,none⟩),.pointer (some ⟨hq,0,none⟩),.pointer (some ⟨ht,0,none⟩)]
def zBi (W:World) (h hd hs hc hq ht:Nat) (vers:Int):Prop:=W.heap[h]? = some (.cells #[.pointer (some ⟨hd,0,none⟩),.pointer (some ⟨hs,0,none⟩),.pointer (some ⟨hc,0,none⟩),.pointer (some ⟨hq,0,none⟩),.pointer (some ⟨ht,0,none⟩),.int .i64 vers] 99 (0,0))
theorem zBi.on {hd hs hc hq ht:Nat} {vers:Int} (x:zBi W h hd hs hc hq ht vers) (a:Below W.heap.size W W'):zBi W' h hd hs hc hq ht vers:=(a.block h (Array.getElem?_eq_some_iff.1 x).1).trans x
theorem qT {W:World} {h hd hs hc hq ht:Nat} {vers:Int} (x:zBi W h hd hs hc hq ht vers):CC 61 #[.pointer (some ⟨h,0,none⟩)] W fun e n=>e=.returned (uD hd hs hc hq ht)/\Below W.heap.size W n:=by
 obtain ⟨V,k⟩:∃V,W.alloc (.cells #[.pointer none,.pointer none,.pointer none,.pointer none,.pointer none] 97)=V:=⟨_,rfl⟩;obtain ⟨M,hM⟩:∃M,W.z=M:=⟨_,rfl⟩;have c:V.heap[M]? = some (.cells #[.pointer none,.pointer none,.pointer none,.pointer none,.pointer none] 97 (0,0)):=by rw [<-k,<-hM];exact xab W _
 have j:Below W.z W V:=by rw [<-k];exact zaQ
 have d:=x.on j;have D:V.cell? (aa h 0)=some (.pointer (some (aa hd 0))):=cz d;have B:V.cell? (aa h 1)=some (.pointer (some (aa hs 0))):=cz d;have t:V.cell? (aa h 2)=some (.pointer (some (aa hc 0))):=cz d;have C:V.cell? (aa h 3)=some (.pointer (some (aa hq 0))):=cz d;have y:V.cell? (aa h 4)=some (.pointer (some (aa ht 0))):=cz d;obtain ⟨a,i⟩:∃a,((((V.setCell (aa M 0) (.pointer (some (aa hd 0)))).setCell (aa M 1) (.pointer (some (aa hs 0)))).setCell (aa M 2) (.pointer (some (aa hc 0)))).setCell (aa M 3) (.pointer (some (aa hq 0)))).setCell (aa M 4) (.pointer (some (aa ht 0)))=a:=⟨_,rfl⟩
 have f:a.heap[M]? = some (.cells #[.pointer (some (aa hd 0)),.pointer (some (aa hs 0)),.pointer (some (aa hc 0)),.pointer (some (aa hq 0)),.pointer (some (aa ht 0))] 97 (0,0)):=by
  rw [<-i];exact xaa _ M 4 _ _ _ (xaa _ M 3 _ _ _ (xaa _ M 2 _ _ _ (xaa _ M 1 _ _ _ (xaa _ M 0 _ _ _ c))))
 have q:Hid (Below W.z W a):=by
  show Below _ _ _
  rw [<-i,hM];rw [hM] at j;exact ((((j.setCell (by simp) _).setCell (by simp) _).setCell (by simp) _).setCell (by simp) _).setCell (by simp) _
 have s:V.cell? (aa M 0)=some (.pointer none):=cz c;have w:V.cell? (aa M 1)=some (.pointer none):=cz c;have u:V.cell? (aa M 2)=some (.pointer none):=cz c;have A:V.cell? (aa M 3)=some (.pointer none):=cz c;have E:V.cell? (aa M 4)=some (.pointer none):=cz c;have F:=zaF c;have r:a.cell? (aa M 0)=some (.pointer (some (aa hd 0))):=cz f;have l:a.cell? (aa M 1)=some (.pointer (some (aa hs 0))):=cz f;have m:a.cell? (aa M 2)=some (.pointer (some (aa hc 0))):=cz f;have o:a.cell? (aa M 3)=some (.pointer (some (aa hq 0))):=cz f;have p:a.cell? (aa M 4)=some (.pointer (some (aa ht 0))):=cz f;go_enter func61,ntmps61;go_wp2_with fail;(try rw [i]);exact zaB (v:=uD hd hs hc hq ht) (by simp [results,results61,go_sem,r,l,m,o,p,uD]) rfl ⟨rfl,q.out⟩
end
section
variable {W W':World} {g n0:Nat} {t fl last:Int} {B:Nat→Prop} {os:Sn}
theorem zZ (w:World) (G j:Nat) (u:Value):Fr (fun b=>b=G) w (w.setCell ⟨G,j,none⟩ u):=⟨rfl,rfl,rfl,by simp,fun k _ a=>xaC _ _ k _ a⟩
theorem cC.on (h:cC W g t) (a:Below W.heap.size W W'):cC W' g t:=(a.block g (Array.getElem?_eq_some_iff.1 h).1).trans h
theorem zAD.on (h:zAD W g t) (a:Below W.heap.size W W'):zAD W' g t:=(a.block g (Array.getElem?_eq_some_iff.1 h).1).trans h
theorem uA (a b c d e:Option Addr) (w:World):(Instr.field 97 (.agg #[.pointer a,.pointer b,.pointer c,.pointer d,.pointer e]) 0).run prog w=.ok (.pointer a) w/\(Instr.field 97 (.agg #[.pointer a,.pointer b,.pointer c,.pointer d,.pointer e]) 1).run prog w=.ok (.pointer b) w/\(Instr.field 97 (.agg #[.pointer a,.pointer b,.pointer c,.pointer d,.pointer e]) 2).run prog w=.ok (.pointer c) w/\(Instr.field 97 (.agg #[.pointer a,.pointer b,.pointer c,.pointer d,.pointer e]) 3).run prog w=.ok (.pointer d) w/\(Instr.field 97 (.agg #[.pointer a,.pointer b,.pointer c,.pointer d,.pointer e]) 4).run prog w=.ok (.pointer e) w:=⟨by kernel_rfl,by kernel_rfl,by kernel_rfl,by kernel_rfl,by kernel_rfl⟩
theorem zC0 {hd hs hc hq ht:Nat} (x:cC W hs last) (s:uT n0 W B hq os fl) (p:os.length<40000000000000):CC 73 #[uD hd hs hc hq ht] W fun e b=>e=.returned (.int .u64 (yJ os last))/\Below W.heap.size W b:=by
 obtain ⟨V,i⟩:=eE (W.alloc (.cells #[jp hd,jp hs,jp hc,jp hq,jp ht] 97));obtain ⟨M,hM⟩:=eE W.z;have l:V.heap[M]? = some (oc #[jp hd,jp hs,jp hc,jp hq,jp ht] 97):=by rw [<-i,<-hM];exact xab W _
 have k:Bw W V:=by rw [<-i];exact zaQ
 have m:=hid k;have c:V.cell? (aa M 1)=some (jp hs):=cz l;have a:V.cell? (aa M 3)=some (jp hq):=cz l;have u:=hid fun n=>fP ((x.on k).on (zG (zaR V.z V) n))
 have r:=hid fun n=>zB0 n0 hq os fl last B (V.drewN n) ((s.on k).on (zG (zaR V.z V) n)) p
 unfold uD;go_enter func73,ntmps73;go_upto_region 1 with fail
 (try rw [i]);(try rw [hM]);refine tkb (S:=fun b=>b.cell? (aa M 1)=some (jp hs)/\b.cell? (aa M 3)=some (jp hq)) ⟨c,a⟩ fun g=>?_;refine tkv4 0 1 2 3 (.pointer (some (aa M 3))) (jp hq) (.pointer (some (aa M 1))) (jp hs) g ?_;simp only [Act.put,sz];refine tkc 4 fun K f=>?_
 go_simp
 refine (u.o 1).mono ?_;rintro C A ⟨rfl,rfl⟩;go_wp2_with fail;refine f.out _ _ (⟨c,a⟩) (fun g=>?_)
 try simp only [Act.put,sz]
 refine tkc 5 fun K f=>?_
 go_simp
 refine (r.o 1).mono ?_;rintro y j ⟨rfl,_,d⟩;have q:Hid (Bw W j):=zA m.o m.o.size (zA (zG (zaR V.z V) 1) (by simp) d);have v:j.cell? (aa M 1)=some (jp hs)/\j.cell? (aa M 3)=some (jp hq):=⟨(d.cell (zI (w:=V) c)).trans c,(d.cell (zI (w:=V) a)).trans a⟩;go_wp2_with fail;refine f.out _ _ v (fun g=>?_)
 try simp only [Act.put,sz]
 refine tkv 6 (iu (yJ os last)) g ?_;simp only [Act.put,sz];refine tkd ?_;go_wp2_with fail;go_ret;exact ⟨rfl,q.o⟩
section
variable {W:World} {h hd hs hc hq ht:Nat} {vers:Int}
theorem zJ0 (x:zBi W h hd hs hc hq ht vers) (j:cC W hs last):CC 17 #[.pointer (some ⟨h,0,none⟩)] W fun e a=>e=.returned (.int .u64 last)/\Below W.heap.size W a:=by
 have d:=hid (qT x);have l:Hid (∀a,Bw W a->CC 39 #[jp hs] a fun e c=>e=.returned (iu last)/\c=a):=fun a b=>fP (j.on b)
 unfold uD at d;have m:=uA (some (aa hd 0)) (some (aa hs 0)) (some (aa hc 0)) (some (aa hq 0)) (some (aa ht 0));go_enter func17,ntmps17;go_wp2_with fail;refine d.o.mono ?_;rintro e f ⟨rfl,b⟩;have i:=hid b;have k:=hid (l.o f b);go_wp2_with fail;refine k.o.mono ?_;rintro e c ⟨rfl,rfl⟩;go_wp2_with fail;go_ret;exact ⟨rfl,i.o⟩
theorem tO (x:zBi W h hd hs hc hq ht vers) (j:uT n0 W B hq os fl):CC 26 #[.pointer (some ⟨h,0,none⟩)] W fun e a=>e=.returned (.int .u64 fl)/\Below W.heap.size W a:=by
 have d:=hid (qT x);have l:Hid (∀a,Bw W a->CC 71 #[jp hq] a fun e c=>e=.returned (iu fl)/\c=a):=fun a b=>zB8 n0 hq os fl B a (j.on b)
 unfold uD at d;have m:=uA (some (aa hd 0)) (some (aa hs 0)) (some (aa hc 0)) (some (aa hq 0)) (some (aa ht 0));go_enter func26,ntmps26;go_wp2_with fail;refine d.o.mono ?_;rintro e f ⟨rfl,b⟩;have i:=hid b;have k:=hid (l.o f b);go_wp2_with fail;refine k.o.mono ?_;rintro e c ⟨rfl,rfl⟩;go_wp2_with fail;go_ret;exact ⟨rfl,i.o⟩
theorem zJC (x:zBi W h hd hs hc hq ht vers) (hsn:uT n0 W B hq os fl):CC 24 #[.pointer (some ⟨h,0,none⟩)] W fun e w'=>e=.returned (.int .i64 (yY os:Nat))/\Below W.heap.size W w':=by
 have HH:=hid (qT x);have HL:Hid (∀w',Bw W w'->CC 69 #[jp hq] w' fun e w2=>e=.returned (ii (yY os:Nat))/\w2=w'):=fun w' hb=>zGK n0 hq os fl B w' (hsn.on hb)
 unfold uD at HH;have hfd:=uA (some (aa hd 0)) (some (aa hs 0)) (some (aa hc 0)) (some (aa hq 0)) (some (aa ht 0));go_enter func24,ntmps24;go_wp2_with fail;refine HH.o.mono ?_;rintro e w1 ⟨rfl,hb⟩;have HB:=hid hb;have HL2:=hid (HL.o w1 hb);go_wp2_with fail;refine HL2.o.mono ?_;rintro e w2 ⟨rfl,rfl⟩;go_wp2_with fail;go_ret;exact ⟨rfl,HB.o⟩
theorem zIT (x:zBi W h hd hs hc hq ht vers) (m:zAD W hc t) (n:Int) (k:0<=t) (j:t<=1099511627776) (l:n<=9223372036854775807):CC 38 #[.pointer (some ⟨h,0,none⟩),.int .i64 n] W fun e a=>e=.returned (.int .i64 (wE t n))/\∃b,Below W.heap.size W b/\a=b.setCell ⟨hc,0,none⟩ (.int .i64 (wE t n)):=by
 have f:=hid (qT x);have q:Hid (∀a,Bw W a->CC 80 #[jp hc,ii n] a fun e d=>e=.returned (ii (wE t n))/\d=a.setCell (aa hc 0) (ii (wE t n))):=fun a c=>zKo (m.on c) n k j l
 unfold uD at f;have r:=uA (some (aa hd 0)) (some (aa hs 0)) (some (aa hc 0)) (some (aa hq 0)) (some (aa ht 0))
 generalize wE t n=tn at *
 go_enter func38,ntmps38
 go_wp2_with fail
 refine f.o.mono ?_;rintro e b ⟨rfl,c⟩;have i:=hid c;have p:=hid (q.o b c);go_wp2_with fail;refine p.o.mono ?_;rintro e d ⟨rfl,rfl⟩;go_wp2_with fail;go_ret;exact ⟨rfl,b,i.o,rfl⟩
end
end
section
open Go.RowKit Go.Maps
theorem zPI (k:Ky) (v:List Fld) (h:xN k.1 k.2=false) (L:List yI):tB k v=2/\mE L k v=L:=by grind [tB,mE]
theorem zL1 (k:Ky) (v:List Fld) (h:xN k.1 k.2=true) (a:yZ v=false) (L:List yI):tB k v=3/\mE L k v=L:=by grind [tB,mE]
theorem zMv (k:Ky) (v:List Fld) (h:xN k.1 k.2=true) (a:yZ v=true) (L:List yI):tB k v=0/\mE L k v=pB L k (some v):=by grind [tB,mE]
theorem zMy (k:Ky) (h:xN k.1 k.2=false) (L:List yI):zAg k=2/\zOK L k=L:=by grind [zAg,zOK]
theorem zHa (k:Ky) (h:xN k.1 k.2=true) (L:List yI):zAg k=0/\zOK L k=pB L k none:=by grind [zAg,zOK]
theorem zSE {N:Nat} {w:World} {u:Value} {o:List Fx} (h:zW N w u o) (l:Bool):∃e:We,e.live=l/\e.sl=u:=by
 rcases h.1.1.2 with ⟨a,c⟩|⟨g,b,_,a,_⟩
 ·exact ⟨⟨l,none,0,0⟩,rfl,a.symm⟩
 exact ⟨⟨l,some g,o.length,b⟩,rfl,a.symm⟩
theorem zOS {n0:Nat} {W:World} {B:Nat->Prop} {g:Nat} {L:List yI} (h:qP n0 W B g L) (hn:n0<=W.heap.size) (hl:L.length<1300000000000) (k:Ky) (H:zAH k) (v:Value) (o:List Fx) (f:List Fld) (R:wH W v o) (hf:yW o) (ae:o.map Fx.fld=f):CC 75 #[.pointer (some ⟨g,0,none⟩),.agg #[.string k.1,.string k.2],v] W fun e a=>e=.returned (.int .i64 (tB k f))/\tJ n0 W B g (mE L k f) a:=by
 obtain ⟨m,F,O,h⟩:=h;obtain ⟨ka,kb⟩:=k;obtain ⟨N,hN⟩:=eE W.heap.size;obtain ⟨V,hV⟩:=eE (W.alloc (.cells #[tq ka,tq kb] 36));have J:Bw W V:=by rw [<-hV];exact zaQ
 have ah:V.heap[N]? = some (oc #[tq ka,tq kb] 36):=by rw [<-hV,<-hN];exact xab W _
 have al:V.heap.size=N+1:=by rw [<-hV,<-hN];simp
 have ao:g<W.heap.size:=(gA h.obj).1
 have r:Hid (∀a:World,Bw V a->a.cell? (aa g 0)=some (.map (some m))/\a.cell? (aa N 0)=some (tq ka)/\a.cell? (aa N 1)=some (tq kb)):=fun a hb=>by
  have Z:=(hb.block N (by omega)).trans ah;exact ⟨(h.on (zA J J.size hb)).cell,by rw [zaC Z];rfl,by rw [zaC Z];rfl⟩
 obtain ⟨q0,q1,X⟩:=r.out V (zaR _ _);have T:=hid (zBp ka kb V H.1 H.2);have j:=hid h;have Y:=hid R;have U:=hid hf;have A:=hid ae;have d:=hid J;have ad:=hid hn;have HL:=hid hl;have ag:=hid H;obtain ⟨p0,c0,hvs⟩:∃p c,v=sc p o.length c:=by obtain ⟨p,c,h1,_⟩:=R;exact ⟨p,c,h1⟩
 subst hvs;obtain ⟨bk,Q⟩:∃b,xN ka kb=b:=⟨_,rfl⟩;have t:=hid Q;rw [Q] at T;go_enter func75,ntmps75;go_wp2_with fail;(try rw [hN]);(try rw [hV]);refine T.o.mono ?_;rintro e w1 ⟨rfl,hb1⟩;obtain ⟨r0,r1,r2⟩:=r.out w1 hb1;have q:=hid hb1
 cases bk with
 | false =>
  go_wp2_with fail
  go_ret;obtain ⟨n,l⟩:=zPI (ka,kb) f t.o L;rw [n,l];exact ⟨rfl,tJ.below j.o (zA d.o d.o.size q.o)⟩
 | true =>
 have HM:=hid (zKA (sc p0 o.length c0) o w1 ((Y.o.kept d.o).kept q.o) U.o);obtain ⟨bm,ab⟩:∃b,yZ (o.map Fx.fld)=b:=⟨_,rfl⟩;have z:=hid ab;rw [ab] at HM;go_wp2_with fail;refine HM.o.mono ?_;rintro e w2 ⟨rfl,hg2⟩;have y:=zA q.o q.o.size hg2.below;have E:=hid y;have w:Hid (Bw V w2.drew):=y.drew;have ak:=y.size
 cases bm with
 | false =>
  go_wp2_with fail
  go_ret;obtain ⟨n,l⟩:=zL1 (ka,kb) f t.o (by rw [<-A.o];exact z.o) L;rw [n,l];exact ⟨rfl,tJ.below j.o (zA d.o d.o.size y)⟩
 | true =>
 have X:=r.out w2.drew w.o;have HC:=hid (nP (sc p0 o.length c0) o w2.drew ((Y.o.kept d.o).kept w.o) U.o (xJ z.o).2);go_wp2_with fail;refine tkb (S:=fun a=>a.cell? (aa g 0)=some (.map (some m))/\a.cell? (aa N 0)=some (tq ka)/\a.cell? (aa N 1)=some (tq kb)) X fun hA=>?_;refine tkv4 0 1 2 3 (jp g) (jp g) (jp g) (.map (some m)) hA ?_;simp only [Act.put,sz];refine tkv2 4 5 (.agg #[tq ka,tq kb]) (sc p0 o.length c0) hA ?_;simp only [Act.put,sz];refine tkc 6 fun K C=>?_
 go_simp
 refine HC.o.mono ?_;rintro e i ⟨u,P,rfl,D,ac,I⟩;have s:Bw W i:=zA (zA d.o d.o.size w.o) (zaU d.o.size (show V.heap.size<=w2.drew.heap.size from E.o.size)) I;have G:=r.out i (zA w.o (show V.heap.size<=w2.drew.heap.size from E.o.size) I);obtain ⟨e3,he1,he2⟩:=zSE D true;have af:zLo W.heap.size i e3 P (some f):=⟨he1,by rw [he2];exact zM D (zaU d.o.size (show V.heap.size<=w2.drew.heap.size from E.o.size)),by rw [ac,A.o];rfl⟩;obtain ⟨w4,ai,hM4,hg4⟩:=zCs (W:=i) (j.o.on s).map (k:=(ka,kb)) ag.o (by have:=HL.o;unfold maxLen;omega) e3;have HT:=hid (j.o.lay ad.o s (ka,kb) t.o e3 P (some f) (fun x M=>by injection M with M;rw [<-M,<-A.o];exact z.o) af hM4 hg4)
 have hput':(Instr.mapUpdate 162 (.map (some m)) (.agg #[tq ka,tq kb]) (.agg #[.bool true,u])).run prog i=.ok () w4:=by
  have e4:MW.val e3=.agg #[.bool true,u]:=by show Value.agg #[.bool e3.live,e3.sl]=_;rw [he1,he2]
  rw [<-e4];exact ai
 have q4:w4.cell? (aa g 0)=some (.map (some m))/\w4.cell? (aa N 0)=some (tq ka)/\w4.cell? (aa N 1)=some (tq kb):=by
  have am:m<W.heap.size:=j.o.map.lt;have an:=s.size;have x0:=j.o.turned s hg4;have aj:N<i.heap.size:=by have:=I.size;have:w2.drew.heap.size=w2.heap.size:=rfl;omega
  have x1:w4.heap[N]? = i.heap[N]?:=hg4.block N aj (fun e=>by injection e with e;omega);exact ⟨by rw [zaC x0.1];rfl,(xap x1).trans G.2.1,(xap x1).trans G.2.2⟩
 obtain ⟨p3,c3,rfl⟩:=xA D;go_wp2_with fail;refine C.out _ _ G (fun hA=>?_)
 try simp only [Act.put,sz]
 refine tkv 7 (.agg #[.bool true,sc p3 P.length c3]) hA ?_;simp only [Act.put,sz];refine tkc 8 fun K C=>?_
 go_simp
 refine C.out _ _ q4 (fun hA=>?_)
 try simp only [Act.put,sz]
 refine tkd ?_;go_wp2_with fail;go_ret;obtain ⟨n,l⟩:=zMv (ka,kb) f t.o (by rw [<-A.o];exact z.o) L;rw [n,l];exact ⟨rfl,HT.o⟩
end
section
open Go.RowKit Go.Maps
theorem zMw {n0:Nat} {W:World} {B:Nat->Prop} {g:Nat} {L:List yI} (h:qP n0 W B g L) (G:n0<=W.heap.size) (H:L.length<1300000000000) (k:Ky) (l:zAH k):CC 90 #[.pointer (some ⟨g,0,none⟩),.agg #[.string k.1,.string k.2]] W fun e a=>e=.returned (.int .i64 (zAg k))/\tJ n0 W B g (zOK L k) a:=by
 obtain ⟨m,F,O,h⟩:=h;obtain ⟨ka,kb⟩:=k;obtain ⟨N,hN⟩:=eE W.heap.size;obtain ⟨V,hV⟩:=eE (W.alloc (.cells #[tq ka,tq kb] 36));have s:Bw W V:=by rw [<-hV];exact zaQ
 have Q:V.heap[N]? = some (oc #[tq ka,tq kb] 36):=by rw [<-hV,<-hN];exact xab W _
 have Z:V.heap.size=N+1:=by rw [<-hV,<-hN];simp
 have n:Hid (∀a:World,Bw V a->a.cell? (aa g 0)=some (.map (some m))/\a.cell? (aa N 0)=some (tq ka)/\a.cell? (aa N 1)=some (tq kb)):=fun a z=>by
  have w:=(z.block N (by omega)).trans Q;exact ⟨(h.on (zA s s.size z)).cell,by rw [zaC w];rfl,by rw [zaC w];rfl⟩
 obtain ⟨q0,q1,i⟩:=n.out V (zaR _ _);have u:=hid (zBp ka kb V l.1 l.2);have c:=hid h;have f:=hid s;have D:=hid G;have J:=hid H;have P:=hid l;obtain ⟨bk,hbk⟩:∃b,xN ka kb=b:=⟨_,rfl⟩;have r:=hid hbk;rw [hbk] at u;go_enter func90,ntmps90;go_wp2_with fail;(try rw [hN]);(try rw [hV]);refine u.o.mono ?_;rintro e w2 ⟨rfl,hb2⟩;obtain ⟨r0,r1,r2⟩:=n.out w2 hb2;have v:Hid (Bw V w2.drew):=hb2.drew;have Y:=hb2.size
 cases bk with
 | false =>
  go_wp2_with fail
  go_ret;obtain ⟨t,j⟩:=zMy (ka,kb) r.o L;rw [t,j];exact ⟨rfl,tJ.below c.o (zA f.o f.o.size hb2)⟩
 | true =>
 have i:=n.out w2.drew v.o;have q:Bw W w2.drew:=zA f.o f.o.size v.o;have I:zLo W.heap.size w2.drew ⟨false,none,0,0⟩ [] none:=⟨rfl,vO _ _,rfl⟩;obtain ⟨d,R,X,p⟩:=zCs (W:=w2.drew) (c.o.on q).map (k:=(ka,kb)) P.o (by have:=J.o;unfold maxLen;omega) ⟨false,none,0,0⟩;have U:=hid (c.o.lay D.o q (ka,kb) r.o ⟨false,none,0,0⟩ [] none (fun x M=>by cases M) I X p);have hput':(Instr.mapUpdate 162 (.map (some m)) (.agg #[tq ka,tq kb]) (.agg #[.bool false,sc none 0 0])).run prog w2.drew=.ok () d:=R
 have E:d.cell? (aa g 0)=some (.map (some m))/\d.cell? (aa N 0)=some (tq ka)/\d.cell? (aa N 1)=some (tq kb):=by
  have ab:m<W.heap.size:=c.o.map.lt;have C:=c.o.turned q p;have T:N<w2.drew.heap.size:=by have:w2.drew.heap.size=w2.heap.size:=rfl;omega
  have y:d.heap[N]? = w2.drew.heap[N]?:=p.block N T (fun e=>by injection e with e;omega);exact ⟨by rw [zaC C.1];rfl,(xap y).trans i.2.1,(xap y).trans i.2.2⟩
 go_wp2_with fail
 refine tkb (S:=fun a=>a.cell? (aa g 0)=some (.map (some m))/\a.cell? (aa N 0)=some (tq ka)/\a.cell? (aa N 1)=some (tq kb)) i fun hA=>?_;refine tkv4 0 1 2 3 (jp g) (jp g) (jp g) (.map (some m)) hA ?_;simp only [Act.put,sz];refine tkv2 4 5 (.agg #[tq ka,tq kb]) (.agg #[.bool false,sc none 0 0]) hA ?_;simp only [Act.put,sz];refine tkc 6 fun K A=>?_
 go_simp
 refine A.out _ _ E (fun hA=>?_)
 try simp only [Act.put,sz]
 refine tkd ?_;go_wp2_with fail;go_ret;obtain ⟨t,j⟩:=zHa (ka,kb) r.o L;rw [t,j];exact ⟨rfl,U.o⟩
end
section
open Go.RowKit Go.Maps
theorem sT.look {n0:Nat} {W:World} {B:Nat->Prop} {g m:Nat} {F:Ky->We} {O:Ky->List Fx} {L:List yI} (h:sT n0 W B g m F O L) (k:Ky) (i:zAH k):∃(lv:Bool) (p:Option Addr) (c:Nat) (o:List Fx),(Instr.lookup 162 (.map (some m)) (.agg #[.string k.1,.string k.2]) true).run prog W=.ok (.tuple #[.agg #[.bool lv,.slice p o.length c],.bool (yH L k).isSome]) W /\
   lv=xM (yH L k)/\wH W (.slice p o.length c) o/\yW o/\xO o/\o.map Fx.fld=jZ (yH L k):=by
 have a:=uK h.map (k:=k) i;rw [dD] at a
 cases hr:yH L k with
 | none =>
  have b:fS L F k=none:=by unfold fS;rw [hr];rfl
  rw [b,hr] at a;exact ⟨false,none,0,[],a,rfl,zDI W |>.1,(zDI W).2.1,(zDI W).2.2,rfl⟩
 | some r =>
 have b:fS L F k=some (F k):=by unfold fS;rw [hr];rfl
 rw [b,hr] at a;obtain ⟨j,e,d⟩:=h.row k r hr;obtain ⟨p,c,hs⟩:=xA e
 have f:yZ ((O k).map Fx.fld)=true:=by
  rw [d]
  cases r with
  | none=>exact pC
  | some v=>exact h.ok.may _ (uV hr) v rfl
 refine ⟨(F k).live,p,c,O k,?_,?_,?_,(xJ f).1,(xJ f).2,d⟩
 ·rw [<-hs];exact a
 ·rw [j]
  cases r<;>rfl
 rw [<-hs];exact e.1.is
theorem zFt {n0:Nat} {W:World} {B:Nat->Prop} {g:Nat} {L:List yI} (h:qP n0 W B g L) (k:Ky) (n:zAH k):CC 89 #[.pointer (some ⟨g,0,none⟩),.agg #[.string k.1,.string k.2]] W fun e a=>e=.returned (.bool (yH L k).isSome)/\tJ n0 W B g (qX L k) a:=by
 obtain ⟨m,F,O,h⟩:=h;obtain ⟨ka,kb⟩:=k;obtain ⟨N,hN⟩:=eE W.heap.size;obtain ⟨V,hV⟩:=eE (W.alloc (.cells #[tq ka,tq kb] 36));have q:Bw W V:=by rw [<-hV];exact zaQ
 have A:V.heap[N]? = some (oc #[tq ka,tq kb] 36):=by rw [<-hV,<-hN];exact xab W _
 have ab:V.heap.size=N+1:=by rw [<-hV,<-hN];simp
 obtain ⟨v,p,c,o,E,Z⟩:=h.look (ka,kb) n;clear Z;obtain ⟨b,hb⟩:=eE ((yH L (ka,kb)).isSome)
 have t:Hid (∀a:World,Bw V a->a.cell? (aa g 0)=some (.map (some m))/\a.cell? (aa N 0)=some (tq ka)/\a.cell? (aa N 1)=some (tq kb)/\(Instr.lookup 162 (.map (some m)) (.agg #[tq ka,tq kb]) true).run prog a=.ok (.tuple #[.agg #[.bool v,sc p o.length c],.bool b]) a):=fun a j=>by
  have r:=(j.block N (by omega)).trans A;have J:=h.on (zA q q.size j);have hx:=uK J.map (k:=(ka,kb)) n;have T:=uK h.map (k:=(ka,kb)) n;have u:(Instr.lookup 162 (.map (some m)) (.agg #[tq ka,tq kb]) true).run prog W=.ok (.tuple #[MW.val ((fS L F (ka,kb)).getD MW.zero),.bool (fS L F (ka,kb)).isSome]) W:=T;rw [E] at u;injection u with u _
  rw [hb] at u;exact ⟨J.cell,by rw [zaC r];rfl,by rw [zaC r];rfl,by rw [u];exact hx⟩
 obtain ⟨f,H⟩:=eE (V.drew.alloc (.cells #[.bool false,sc none 0 0] 191));have z:Bw V f:=by rw [<-H];exact ((zaR _ V).drew).alloc (zaL _) _
 have C:Bw V (f.setCell (aa (N+1) 0) (.bool v)):=z.setCell (show V.heap.size<=N+1 by omega) _;have w:Bw V ((f.setCell (aa (N+1) 0) (.bool v)).setCell (aa (N+1) 1) (sc p o.length c)):=C.setCell (show V.heap.size<=N+1 by omega) _;have l:f.heap[N+1]? = some (oc #[.bool false,sc none 0 0] 191):=by rw [<-H,<-ab];exact xab V.drew _
 have z0:f.cell? (aa (N+1) 0)=some (.bool false):=cz l;have z1:f.cell? (aa (N+1) 1)=some (sc none 0 0):=cz l;have z2:f.frozen? (aa (N+1) 0)=false:=zaF l 0;have z3:f.frozen? (aa (N+1) 1)=false:=zaF l 1;have I:Hid (∀a:World,a.cell? (aa g 0)=some (.map (some m))->CC 103 #[jp g] a fun e d=>e=.returned (.map (some m))/\d=a):=fun a hc=>bY g m a hc
 have M:Hid (∀a,Bw V a->∃d,(Builtin.delete_ #[162,36] 0 #[.map (some m),.agg #[tq ka,tq kb]]).run prog a=.ok (.tuple #[]) d/\tJ n0 W B g (qX L (ka,kb)) d/\d.cell? (aa g 0)=some (.map (some m))/\d.cell? (aa N 0)=some (tq ka)/\d.cell? (aa N 1)=some (tq kb)):=fun a j=>by
  have y:=zA q q.size j;obtain ⟨d,c',P,ad,ac,x,_⟩:=zH5 (h.on y).map (k:=(ka,kb)) n 0;have ae:m<W.heap.size:=h.map.lt;have x0:=h.turned y x;have U:d.heap[N]? = a.heap[N]?:=x.block N (by have:=j.size;omega) (fun e=>by injection e with e;omega);have r:=U.trans ((j.block N (by omega)).trans A);exact ⟨d,P,h.gone y (ka,kb) ad ac x,by rw [zaC x0.1];rfl,by rw [zaC r];rfl,by rw [zaC r];rfl⟩
 have G:=t.out V.drew (zaR _ V).drew;have D:=t.out _ z;have q2:=t.out _ w;have i:=t.out _ (w.drew);obtain ⟨d,P,Q,X,t1,R⟩:=M.o _ (w.drew);have Y:=hid Q;rw [hb];clear h q A E hb z C w l Q t M n;go_enter func89,ntmps89;go_wp2_with fail;try rw [hN];try rw [hV]
 go_region_held3 (fun a=>a.cell? (aa g 0)=some (.map (some m))/\a.cell? (aa N 0)=some (tq ka)/\a.cell? (aa N 1)=some (tq kb)/\(Instr.lookup 162 (.map (some m)) (.agg #[tq ka,tq kb]) true).run prog a=.ok (.tuple #[.agg #[.bool v,sc p o.length c],.bool b]) a)
  (first|exact G|exact D|exact q2)
  (first|(go_at_call 103;refine (I.o _ (by first|exact G.1|exact D.1)).mono ?_;rintro e w5 ⟨rfl,rfl⟩))
 all_goals
  go_wp2_with fail
  refine tkb (S:=fun a=>a.cell? (aa g 0)=some (.map (some m))/\a.cell? (aa N 0)=some (tq ka)/\a.cell? (aa N 1)=some (tq kb)) ⟨i.1,i.2.1,i.2.2.1⟩ fun hHeld=>?_;refine tkv2 0 2 (jp g) (.agg #[tq ka,tq kb]) hHeld ?_;simp only [Act.put,sz];refine tkc 1 fun K s=>?_
  go_simp
  refine (I.o _ i.1).mono ?_;rintro e w5 ⟨rfl,rfl⟩;go_wp2_with fail;refine s.out _ _ (⟨i.1,i.2.1,i.2.2.1⟩) (fun hHeld=>?_);clear s K
  try simp only [Act.put,sz]
  refine tkc 3 fun K s=>?_
  go_simp
  refine s.out _ _ (⟨X,t1,R⟩) (fun hHeld=>?_);clear s K
  try simp only [Act.put,sz]
  refine tkd ?_;go_wp2_with fail;go_ret;exact ⟨rfl,Y.o⟩
end
section
open Go.RowKit Go.Maps
section
variable {n0 g:Nat} {W:World} {B:Nat→Prop} {L:List yI}
structure zFg (W:World) (r:Option Addr) (mp:Option Nat) (ka kb:ByteArray) (lv b:Bool) (p:Option Addr) (c:Nat) (o:List Fx):Prop where
 all:∀w',Below W.heap.size W w'->CC 103 #[.pointer r] w' fun e w2=>e=.returned (.map mp)/\w2=w'
 look:∀w',Below W.heap.size W w'->(Instr.lookup 162 (.map mp) (.agg #[.string ka,.string kb]) true).run prog w'=.ok (.tuple #[.agg #[.bool lv,.slice p o.length c],.bool b]) w'
theorem zFg.of {m:Nat} {F:Ky->We} {O:Ky->List Fx} (h:sT n0 W B g m F O L) (a b:ByteArray) (f:zAH (a,b)):∃d p c o,zFg W (some ⟨g,0,none⟩) (some m) a b d (yH L (a,b)).isSome p c o/\d=xM (yH L (a,b))/\wH W (.slice p o.length c) o/\yW o/\xO o/\o.map Fx.fld=jZ (yH L (a,b)):=by
 obtain ⟨d,p,c,o,l,n⟩:=h.look (a,b) f;refine ⟨d,p,c,o,⟨fun j i=>bY g m j (h.on i).cell,fun j i=>?_⟩,n⟩;have q:=uK (h.on i).map (k:=(a,b)) f;have e:(Instr.lookup 162 (.map (some m)) (.agg #[tq a,tq b]) true).run prog W=.ok (.tuple #[MW.val ((fS L F (a,b)).getD MW.zero),.bool (fS L F (a,b)).isSome]) W:=uK h.map (k:=(a,b)) f;rw [l] at e;injection e with e _
 rw [e];exact q
theorem zOH {r:Option Addr} {v:Option Nat} {k j:ByteArray} {d b:Bool} {p:Option Addr} {c:Nat} {o:List Fx} (h:zFg W r v k j d b p c o) (hx:wH W (.slice p o.length c) o) (hf:yW o) (hc:xO o):CC 105 #[.pointer r,.agg #[.string k,.string j]] W fun e a=>∃t n i,e=.returned (.tuple #[.slice t i.length n,.bool d,.bool b])/\zW W.heap.size a (.slice t i.length n) i/\i.map Fx.fld=o.map Fx.fld/\Below W.heap.size W a:=by
 obtain ⟨N,C⟩:=eE W.heap.size;obtain ⟨V,hV⟩:=eE (W.alloc (.cells #[tq k,tq j] 36));have m:Bw W V:=by rw [<-hV];exact zaQ
 have ad:V.heap[N]? = some (oc #[tq k,tq j] 36):=by rw [<-hV,<-C];exact xab W _
 have X:V.heap.size=N+1:=by rw [<-hV,<-C];simp
 have D:Hid (∀a:World,Bw V a->a.cell? (aa N 0)=some (tq k)/\a.cell? (aa N 1)=some (tq j)/\(Instr.lookup 162 (.map v) (.agg #[tq k,tq j]) true).run prog a=.ok (.tuple #[.agg #[.bool d,sc p o.length c],.bool b]) a):=fun a x=>by
  have s:=(x.block N (by omega)).trans ad;exact ⟨by rw [zaC s];rfl,by rw [zaC s];rfl,h.look _ (zA m m.size x)⟩
 obtain ⟨f,G⟩:=eE (V.drew.alloc (.cells #[.bool false,sc none 0 0] 191));have E:Bw V f:=by rw [<-G];exact ((zaR _ V).drew).alloc (zaL _) _
 have ab:Bw V (f.setCell (aa (N+1) 0) (.bool d)):=E.setCell (show V.heap.size<=N+1 by omega) _;have y:Bw V ((f.setCell (aa (N+1) 0) (.bool d)).setCell (aa (N+1) 1) (sc p o.length c)):=ab.setCell (show V.heap.size<=N+1 by omega) _;have q:f.heap[N+1]? = some (oc #[.bool false,sc none 0 0] 191):=by rw [<-G,<-X];exact xab V.drew _
 have z:((f.setCell (aa (N+1) 0) (.bool d)).setCell (aa (N+1) 1) (sc p o.length c)).heap[N+1]? = some (oc #[.bool d,sc p o.length c] 191):=xaa (f.setCell (aa (N+1) 0) (.bool d)) (N+1) 1 _ _ _ (xaa f (N+1) 0 _ _ _ q);obtain ⟨l,I⟩:=eE ((f.setCell (aa (N+1) 0) (.bool d)).setCell (aa (N+1) 1) (sc p o.length c));rw [I] at z y;have z0:f.cell? (aa (N+1) 0)=some (.bool false):=cz q;have z1:f.cell? (aa (N+1) 1)=some (sc none 0 0):=cz q;have z2:f.frozen? (aa (N+1) 0)=false:=zaF q 0;have z3:f.frozen? (aa (N+1) 1)=false:=zaF q 1
 have O:Hid (∀a:World,Below l.heap.size l.drew a->a.cell? (aa (N+1) 0)=some (.bool d)/\a.cell? (aa (N+1) 1)=some (sc p o.length c)):=fun a x=>by
  have s:=(x.block (N+1) (by have:=(gA z).1;omega)).trans z;exact ⟨by rw [zaC s];rfl,by rw [zaC s];rfl⟩
 have ae:Hid (∀a:World,Bw V a->CC 103 #[.pointer r] a fun e w2=>e=.returned (.map v)/\w2=a):=fun a hb=>h.all a (zA m m.size hb)
 have H:Bw V V.drew:=(zaR _ V).drew;have T:=hid H;have Z:=hid E;have ac:=hid y;have F:=hid m;have q0:=D.out V.drew H;have q1:=D.out _ E;have q2:=D.out _ y;have U:=O.out l.drew (zaR _ _);have Q:=hid (nP (sc p o.length c) o l.drew ((hx.kept m).kept (show Bw V l.drew from y.drew)) hf hc);go_enter func105,ntmps105;go_wp2_with fail;(try rw [C]);(try rw [hV])
 go_region_held3 (fun a=>a.cell? (aa N 0)=some (tq k)/\a.cell? (aa N 1)=some (tq j)/\(Instr.lookup 162 (.map v) (.agg #[tq k,tq j]) true).run prog a=.ok (.tuple #[.agg #[.bool d,sc p o.length c],.bool b]) a)
  (first|exact q0|exact q1|exact q2)
  (first|(go_at_call 103;refine (ae.o _ (by first|exact T.o|exact Z.o)).mono ?_;rintro e w ⟨rfl,rfl⟩))
 all_goals
  go_wp2_with fail
  (try rw [I]);refine tkb (S:=fun a=>a.cell? (aa (N+1) 0)=some (.bool d)/\a.cell? (aa (N+1) 1)=some (sc p o.length c)) U fun hHeld=>?_;refine tkv3 0 1 3 (.pointer (some (aa (N+1) 1))) (sc p o.length c) (jp (N+1)) hHeld ?_;simp only [Act.put,sz];refine tkv2 4 5 (.bool d) (.bool b) hHeld ?_;simp only [Act.put,sz];refine tkc 2 fun K P=>?_
  go_simp
  refine Q.o.mono ?_;rintro e w ⟨u,i,rfl,J,R,M⟩;have Y:=O.out w M
  have HP:Hid (zW W.heap.size w u i/\i.map Fx.fld=o.map Fx.fld/\Bw W w):=by
   have A:Bw W l.drew:=zA F.o F.o.size ac.o.drew;exact ⟨zM J A.size,R,zA A A.size M⟩
  obtain ⟨t,n,rfl⟩:=xA J;go_wp2_with fail;refine P.out _ _ Y (fun hHeld=>?_)
  try simp only [Act.put,sz]
  refine tkv3 6 7 8 (sc t i.length n) (.bool d) (.bool b) hHeld ?_;simp only [Act.put,sz];refine tkd ?_;go_wp2_with fail
  go_ret3
  exact ⟨t,n,i,rfl,HP.o⟩
theorem zGh (h:qP n0 W B g L) (k:Ky) (b:zAH k):CC 105 #[.pointer (some ⟨g,0,none⟩),.agg #[.string k.1,.string k.2]] W fun e a=>kL W L k e a:=by
 obtain ⟨m,F,O,h⟩:=h;obtain ⟨lv,p,c,o,hl,rfl,hx,hf,hc,ho⟩:=zFg.of h k.1 k.2 b;refine (zOH hl hx hf hc).mono ?_;rintro e a ⟨p',c',o',rfl,h1,h2,h3⟩;exact ⟨p',c',o',rfl,h1,h2.trans ho,h3⟩
end
end
section
variable {w W:World}
theorem vB {X:Nat} (d:w.heap[X]? = some (.cells #[.int .i64 0,.int .u64 0,.int .i64 0,.bool false,.slice none 0 0] 42 (0,0))) (x:Vx) (c:World) (e:(((((w.setCell ⟨X,0,none⟩ (.int .i64 x.num)).setCell ⟨X,1,none⟩ (.int .u64 x.stamp)).setCell ⟨X,2,none⟩ (.int .i64 x.tick)).setCell ⟨X,3,none⟩ (.bool x.live)).setCell ⟨X,4,none⟩ (.slice x.p x.o.length x.cap))=c):c.heap[X]? = some (.cells #[.int .i64 x.num,.int .u64 x.stamp,.int .i64 x.tick,.bool x.live,.slice x.p x.o.length x.cap] 42 (0,0))/\Fr (fun b=>b=X) w c:=by
 rw [<-e];exact ⟨xaa _ X 4 _ _ _ (xaa _ X 3 _ _ _ (xaa _ X 2 _ _ _ (xaa _ X 1 _ _ _ (xaa _ X 0 _ _ _ d)))),((((zZ w X 0 _).then (zZ _ X 1 _) fun k a=>xac a).then (zZ _ X 2 _) fun k a=>xac a).then (zZ _ X 3 _) fun k a=>xac a).then (zZ _ X 4 _) fun k a=>xac a⟩
theorem vD (w:World) (b c:Array Value) (a d:TypeId):Below w.heap.size w ((w.alloc (.cells b a)).alloc (.cells c d))/\((w.alloc (.cells b a)).alloc (.cells c d)).heap[w.heap.size]? = some (.cells b a (0,0))/\((w.alloc (.cells b a)).alloc (.cells c d)).heap[w.heap.size+1]? = some (.cells c d (0,0))/\((w.alloc (.cells b a)).alloc (.cells c d)).heap.size=w.heap.size+2:=by
 have f:Bw w (w.alloc (.cells b a)):=zaQ;have h:(w.alloc (.cells b a)).heap.size=w.heap.size+1:=by simp
 have g:Below (w.alloc (.cells b a)).heap.size (w.alloc (.cells b a)) ((w.alloc (.cells b a)).alloc (.cells c d)):=zaQ;have i:(w.alloc (.cells b a)).heap[w.heap.size]? = some (oc b a):=xab w _;have e:((w.alloc (.cells b a)).alloc (.cells c d)).heap[(w.alloc (.cells b a)).heap.size]? = some (oc c d):=xab _ _;rw [h] at e;exact ⟨zA f f.size g,(g.block _ (by omega)).trans i,e,by simp⟩
theorem zA7 {V c:World} {o:Option Vr} {x:Vx} {B:Nat} (a:Below W.heap.size W V) (h:Below V.heap.size V w) (j:W.heap.size<=B) (i:B<V.heap.size) (g:x.ver=o.getD zeroV) (hj:zW V.heap.size w x.sl x.o) (f:Fr (fun b=>b=B) w c):vZ W o (.returned (.tuple #[.agg (zF x).toArray,.bool o.isSome])) c:=by
 have q:Bw W w:=zA a a.size h;exact ⟨x,rfl,g,zM (yC hj f fun k d e=>by have:=(yL hj k d).1;omega) a.size,q.trans (f.below q.size fun k d=>by omega)⟩
theorem gO {n0 n:Nat} {D:List zQ} {g:Nat} {d P:Int} {h gw:Nat} {ks rs:Value} {m hs hc hq ht:Nat} {T:Int} (x:XAt W g d P h gw ks rs m hs hc hq ht T) (X:uP n0 m n D W) (k:Ky) (A:yO k):CC 88 #[.pointer (some ⟨g,0,none⟩),.agg #[.string k.1,.string k.2]] W fun e c=>vZ W (atV (ofD D k) d) e c:=by
 obtain ⟨q,r,C,z⟩:=vD W #[tq k.1,tq k.2] #[ii 0,iu 0,ii 0,.bool false,sc none 0 0] 36 42;obtain ⟨V,hV⟩:=eE ((W.alloc (.cells #[tq k.1,tq k.2] 36)).alloc (.cells #[ii 0,iu 0,ii 0,.bool false,sc none 0 0] 42));obtain ⟨Q,hQ⟩:=eE W.heap.size;rw [hV] at q r C z;rw [hQ] at r C z;have HV:=hid q;have J:Hid (V.heap.size=Q+2):=z;have ac:Hid (W.heap.size=Q):=hQ;have L:=hid C;have F:=x.on q;obtain ⟨x0,_,x2,_⟩:=F.xc;obtain ⟨s0,_⟩:=F.sc;have a0:V.cell? (aa Q 0)=some (tq k.1):=cz r;have a1:V.cell? (aa Q 1)=some (tq k.2):=cz r
 have t:Hid (∀l,Fr (fun b=>b=Q+1) V l->l.cell? (aa Q 0)=some (tq k.1)/\l.cell? (aa Q 1)=some (tq k.2)/\l.cell? (aa g 0)=some (iu d)/\l.cell? (aa g 2)=some (jp h)/\l.cell? (aa h 0)=some (jp m)):=fun l f=>by
  have hg:=(gA x.x).1;have hh:=(gA x.s).1;exact ⟨f.cell a0 (by show ¬ Q=Q+1;omega),f.cell a1 (by show ¬ Q=Q+1;omega),f.cell x0 (by show ¬ g=Q+1;omega),f.cell x2 (by show ¬ g=Q+1;omega),f.cell s0 (by show ¬ h=Q+1;omega)⟩
 have G:Hid (∀p,CC 67 #[jp m,.agg #[tq k.1,tq k.2],iu d] (V.drewN p) fun e c=>vZ (V.drewN p) (atV (ofD D k) d) e c):=fun p=>zR4 ((X.on q).on (zG (zaR V.heap.size V) p)) k A d
 have M:=t.o V (Fr.refl _ _);obtain ⟨o,Z⟩:=eE (atV (ofD D k) d);rw [Z] at G ⊢;obtain ⟨ka,kb⟩:=k;simp only at *;go_enter func88,ntmps88;go_upto_region 1 with fail
 (try rw [hV]);(try rw [hQ]);refine tkb (S:=fun c=>c.cell? (aa Q 0)=some (tq ka)/\c.cell? (aa Q 1)=some (tq kb)/\c.cell? (aa g 0)=some (iu d)/\c.cell? (aa g 2)=some (jp h)/\c.cell? (aa h 0)=some (jp m)) M fun w=>?_;refine tkv4 0 1 2 3 (jp g) (jp g) (.pointer (some (aa g 2))) (jp h) w ?_;simp only [Act.put,sz];refine tkv4 4 5 6 7 (jp h) (jp h) (jp h) (jp m) w ?_;simp only [Act.put,sz];refine tkv3 8 9 10 (.agg #[tq ka,tq kb]) (jp g) (jp g) w ?_;simp only [Act.put,sz];refine tkv2 11 12 (jp g) (iu d) w ?_;simp only [Act.put,sz];refine tkc 13 fun K u=>?_
 go_simp
 refine (G.o 1).mono ?_;rintro e1 a ⟨y,rfl,N,hj,ad⟩;have E:Bw V a:=zA (zG (zaR V.heap.size V) 1) (by simp) ad;have H:=hid E;have i:a.heap[Q+1]? = some (oc #[ii 0,iu 0,ii 0,.bool false,sc none 0 0] 42):=(E.block _ (by have:=J.o;omega)).trans L.o;have R:=t.o a (Fr.of_below E);have HJ:Hid (zW V.heap.size a y.sl y.o):=hj;have ae:=hid N;obtain ⟨xn,xs,xt,xl,xp,xc,xo⟩:=y;simp only [zF,Vx.sl] at *;go_wp2_with fail;refine u.out _ _ R (fun w=>?_)
 try simp only [Act.put,sz]
 refine tkv2 14 15 (.agg #[ii xn,iu xs,ii xt,.bool xl,sc xp xo.length xc]) (.bool o.isSome) w ?_;simp only [Act.put,sz];obtain ⟨j,I⟩:=eE ((((((a.setCell (aa (Q+1) 0) (ii xn)).setCell (aa (Q+1) 1) (iu xs)).setCell (aa (Q+1) 2) (ii xt)).setCell (aa (Q+1) 3) (.bool xl)).setCell (aa (Q+1) 4) (sc xp xo.length xc)));obtain ⟨hbz,fz⟩:=vB i ⟨xn,xs,xt,xl,xp,xc,xo⟩ j I;have y0:a.cell? (aa (Q+1) 0)=some (ii 0):=cz i;have y1:a.cell? (aa (Q+1) 1)=some (iu 0):=cz i;have y2:a.cell? (aa (Q+1) 2)=some (ii 0):=cz i;have y3:a.cell? (aa (Q+1) 3)=some (.bool false):=cz i;have y4:a.cell? (aa (Q+1) 4)=some (sc none 0 0):=cz i;have z0:=zaF i;have g0:j.cell? (aa (Q+1) 0)=some (ii xn):=cz hbz;have O:j.cell? (aa (Q+1) 1)=some (iu xs):=cz hbz;have U:j.cell? (aa (Q+1) 2)=some (ii xt):=cz hbz;have Y:j.cell? (aa (Q+1) 3)=some (.bool xl):=cz hbz;have g4:j.cell? (aa (Q+1) 4)=some (sc xp xo.length xc):=cz hbz;have af:=hid (zA7 (x:=⟨xn,xs,xt,xl,xp,xc,xo⟩) HV.o H.o (B:=Q+1) (by have:=ac.o;omega) (by have:=J.o;omega) ae.o HJ.o fz);have ab:=t.o j (Fr.then (Fr.of_below H.o) fz fun k A=>xac A);refine tkc 16 fun K u=>?_
 go_simp
 go_wp2_with fail
 (try rw [I]);refine u.out _ _ ab (fun w=>?_)
 try simp only [Act.put,sz]
 refine tkv 17 (.bool o.isSome) w ?_;simp only [Act.put,sz];refine tkd ?_;go_wp2_with fail;exact zaB (v:=.tuple #[.agg #[ii xn,iu xs,ii xt,.bool xl,sc xp xo.length xc],.bool o.isSome]) (by simp [results,results88,go_sem,g0,O,U,Y,g4]) rfl af.o
end
section
variable {l:List Vr} {v:Vr} {n0 g n:Nat} {D:List zQ} {W:World}
theorem zOu (h:OkV l) {v:Vr} (a:v∈l):v.num<=(yF l).num:=by
 obtain ⟨i,hi,rfl⟩:=List.getElem_of_mem a
 have b:∀d j,(hj:j<l.length)->j+d+1=l.length->(l[j]).num+d=(yF l).num:=by
  intro d
  induction d with
  | zero=>grind [yF]
  | succ d ih =>
  intro j hj e;have q:=ih (j+1) (by omega) (by omega);have c:=h.nums j (by omega);omega
 have:=b (l.length-1-i) i hi (by omega);omega
theorem zEu {t:Int} (h:atV l t=some v):v∈l:=by grind [atV]
theorem zPV (h:uP n0 g n D W) (k:Ky) (t:Int):0<=((atV (ofD D k) t).getD zeroV).num/\((atV (ofD D k) t).getD zeroV).num<=n:=by
 obtain ⟨m,G,h⟩:=h
 cases e:atV (ofD D k) t with
 | none=>exact ⟨xbo _,by show (0:Int)<=n;omega⟩
 | some v =>
 have a:=zEu e;have b:OkV (ofD D k):=pW h.ok k;have c:=zOu b a;have d:=h.num k;have f:=(b.first v a).1
 grind
theorem zDT {t id:Int} {h R:Nat} {ks rs:Value} {hd hs hc hq ht:Nat} {av:Int} {B:Nat->Prop} {L:List yI} (x:XAt W g t id h R ks rs hd hs hc hq ht av) (hD:uP n0 hd n D W) (hn:n<=2400000000000) (hw:qP n0 W B R L) (N:Bool) (M:Mk) (k:Ky) (hk:yO k):CC 78 #[.pointer (some ⟨g,0,none⟩),.agg #[.string k.1,.string k.2]] W fun e I=>vZ W (isS D ⟨t,N,M,L⟩ k) e I:=by
 obtain ⟨ab,h1,h2,ak⟩:=vD W #[tq k.1,tq k.2] #[ii 0,iu 0,ii 0,.bool false,sc none 0 0] 36 42;obtain ⟨V,hV⟩:=eE ((W.alloc (.cells #[tq k.1,tq k.2] 36)).alloc (.cells #[ii 0,iu 0,ii 0,.bool false,sc none 0 0] 42));obtain ⟨Q,hQ⟩:=eE W.heap.size;rw [hV] at ab h1 h2 ak;rw [hQ] at h1 h2 ak;have HV:=hid ab;have ai:Hid (V.heap.size=Q+2):=ak;have aq:Hid (W.heap.size=Q):=hQ;have au:=hid h2;have xv:=x.on ab;obtain ⟨_,_,_,x3,_⟩:=xv.xc;have a0:V.cell? (aa Q 0)=some (tq k.1):=cz h1;have a1:V.cell? (aa Q 1)=some (tq k.2):=cz h1
 have HS:Hid (∀A,Bw V A->A.cell? (aa Q 0)=some (tq k.1)/\A.cell? (aa Q 1)=some (tq k.2)/\A.cell? (aa g 3)=some (jp R)):=fun A U =>
  ⟨(U.cell (zI a0)).trans a0,(U.cell (zI a1)).trans a1,(U.cell (zI x3)).trans x3⟩
 have ap:=hid (gO xv (hD.on ab) k hk);have ae:Hid (∀A,Bw V A->CC 105 #[jp R,.agg #[tq k.1,tq k.2]] A fun e I=>kL A L k e I):=fun A U=>zGh (n0:=n0) (B:=B) (by obtain ⟨m,F,O,hu⟩:=hw;exact ⟨m,F,O,(hu.on ab).on U⟩) k hk
 have be:=zPV hD k t
 have ad:Hid (∀y:Vx,y.ver=(atV (ofD D k) t).getD zeroV->(yH L k=none->isS D ⟨t,N,M,L⟩ k=atV (ofD D k) t)/\(∀(r:Wr) (p:Option Addr) (c:Nat) (d:List Fx),yH L k=some r->d.map Fx.fld=jZ (some r)->isS D ⟨t,N,M,L⟩ k=some (Vx.ver ⟨y.num+1,0,0,xM (some r),p,c,d⟩))):=fun y hy=>by
  refine ⟨fun e=>?_,fun r p c d e ho=>?_⟩
  ·unfold isS;rw [show yH (Tx.wr ⟨t,N,M,L⟩) k=none from e];rfl
  unfold isS;rw [show yH (Tx.wr ⟨t,N,M,L⟩) k=some r from e];show some (Vr.mk _ _ _ _ _)=some _
  congr 1
  show Vr.mk (((atV (ofD D k) t).getD zeroV).num+1) 0 0 (xM (some r)) (jZ (some r))=_
  rw [<-hy,<-ho];rfl
 obtain ⟨o,ho⟩:=eE (atV (ofD D k) t);obtain ⟨is,his⟩:=eE (isS D ⟨t,N,M,L⟩ k);rw [ho] at ap ad be;rw [his] at ad ⊢;obtain ⟨GX,hGX⟩:=eE (yH L k);unfold kL at ae;rw [hGX] at ae ad;obtain ⟨ka,kb⟩:=k;simp only at *
 have bf:Hid (∀y:Vx,y.ver=o.getD zeroV->0<=y.num/\y.num<=2400000000000):=fun y hy=>by
  have e:y.num=(o.getD zeroV).num:=by rw [<-hy];rfl
  rw [e];omega
 go_enter func78,ntmps78
 go_upto_region 1 with fail
 (try rw [hV]);(try rw [hQ]);go_wp2_with fail;refine ap.o.mono ?_;rintro e1 Y ⟨y,rfl,hv,hj,aj⟩;obtain ⟨X,hX⟩:=eE Y.heap.size;obtain ⟨W2,hW2⟩:=eE (Y.alloc (.cells #[ii 0,iu 0,ii 0,.bool false,sc none 0 0] 42));have J:W2.heap[X]? = some (oc #[ii 0,iu 0,ii 0,.bool false,sc none 0 0] 42):=by rw [<-hW2,<-hX];exact xab Y _
 have ao:Bw Y W2:=by rw [<-hW2];exact zaQ
 have aw:V.heap.size<=X:=by rw [<-hX];exact aj.size
 have ba:=hid (bf.o y hv);have am:=hid (ad.o y hv);have bh:=hid hv;obtain ⟨b,E,z,C,s,q,i⟩:=y;simp only [zF,Vx.sl] at *;obtain ⟨W3,hW3⟩:=eE ((((((W2.setCell (aa X 0) (ii b)).setCell (aa X 1) (iu E)).setCell (aa X 2) (ii z)).setCell (aa X 3) (.bool C)).setCell (aa X 4) (sc s i.length q)));obtain ⟨hbx,fx⟩:=vB J ⟨b,E,z,C,s,q,i⟩ W3 hW3;have y0:W2.cell? (aa X 0)=some (ii 0):=cz J;have y1:W2.cell? (aa X 1)=some (iu 0):=cz J;have y2:W2.cell? (aa X 2)=some (ii 0):=cz J;have y3:W2.cell? (aa X 3)=some (.bool false):=cz J;have y4:W2.cell? (aa X 4)=some (sc none 0 0):=cz J;have z0:=zaF J;have g0:W3.cell? (aa X 0)=some (ii b):=cz hbx;have g1:W3.cell? (aa X 1)=some (iu E):=cz hbx;have g2:W3.cell? (aa X 2)=some (ii z):=cz hbx;have g3:W3.cell? (aa X 3)=some (.bool C):=cz hbx;have g4:W3.cell? (aa X 4)=some (sc s i.length q):=cz hbx;have ar:Bw Y W3:=ao.trans (fx.below ao.size fun k hk=>by omega);have ah:Bw V W3:=zA aj aj.size ar;have bk:=HS.o W3 ah;have ax:=hid fun n'=>ae.o (W3.drewN n') (zG ah n')
 have bb:Hid (zW V.heap.size W3 (sc s i.length q) i):=yC (P:=fun _=>False) hj (Fr.of_below ar) fun _ _ f=>f
 have al:=hid ah;have bm:=hid hbx;have bg:Hid (V.heap.size<=X/\X<W3.heap.size):=⟨aw,(gA hbx).1⟩;go_upto_region 2 with fail
 (try rw [hX]);(try rw [hW2]);(try rw [hW3]);refine tkb (S:=fun I=>I.cell? (aa Q 0)=some (tq ka)/\I.cell? (aa Q 1)=some (tq kb)/\I.cell? (aa g 3)=some (jp R)) bk fun l=>?_;refine tkv3 0 1 2 (jp g) (jp g) (.pointer (some (aa g 3))) l ?_;simp only [Act.put,sz];refine tkv2 3 4 (jp R) (.agg #[tq ka,tq kb]) l ?_;simp only [Act.put,sz];refine tkc 5 fun K hK=>?_
 go_simp
 refine (ax.o 1).mono ?_;rintro e5 a ⟨u,w,d,rfl,bl,az,bi⟩;have af:Bw W3 a:=zA (zG (zaR W3.heap.size W3) 1) (by simp) bi;have ag:Bw V a:=zA al.o al.o.size af;have ay:=HS.o a ag;have G:a.heap[Q+1]? = some (oc #[ii 0,iu 0,ii 0,.bool false,sc none 0 0] 42):=(ag.block _ (by have:=ai.o;omega)).trans au.o;have T:a.heap[X]? = some (oc #[ii b,iu E,ii z,.bool C,sc s i.length q] 42):=(af.block _ bg.o.2).trans bm.o;have bj:Hid (zW V.heap.size a (sc s i.length q) i):=yC (P:=fun _=>False) bb.o (Fr.of_below af) fun _ _ f=>f
 have bd:Hid (zW V.heap.size a (sc u d.length w) d):=zM bl (zaU al.o.size (by simp));have bc:=hid az;have an:=hid ag;go_wp2_with fail;refine hK.out _ _ ay (fun l=>?_)
 try simp only [Act.put,sz]
 refine tkv4 6 7 10 8 (.tuple #[sc u d.length w,.bool (xM GX),.bool GX.isSome]) (sc u d.length w) (sc u d.length w) (.bool (xM GX)) l ?_;simp only [Act.put,sz];refine tkv3 11 9 12 (.bool (xM GX)) (.bool GX.isSome) (.bool GX.isSome) l ?_;simp only [Act.put,sz];refine tkd ?_;have y0:a.cell? (aa (Q+1) 0)=some (ii 0):=cz G;have y1:a.cell? (aa (Q+1) 1)=some (iu 0):=cz G;have y2:a.cell? (aa (Q+1) 2)=some (ii 0):=cz G;have y3:a.cell? (aa (Q+1) 3)=some (.bool false):=cz G;have y4:a.cell? (aa (Q+1) 4)=some (sc none 0 0):=cz G;have z0:=zaF G;have d0:a.cell? (aa X 0)=some (ii b):=cz T;have d1:a.cell? (aa X 1)=some (iu E):=cz T;have d2:a.cell? (aa X 2)=some (ii z):=cz T;have d3:a.cell? (aa X 3)=some (.bool C):=cz T;have d4:a.cell? (aa X 4)=some (sc s i.length q):=cz T
 cases GX with
 | none =>
  have ac:=hid (am.o.1 rfl);obtain ⟨j,Z⟩:=eE ((((((a.setCell (aa (Q+1) 0) (ii b)).setCell (aa (Q+1) 1) (iu E)).setCell (aa (Q+1) 2) (ii z)).setCell (aa (Q+1) 3) (.bool C)).setCell (aa (Q+1) 4) (sc s i.length q)));obtain ⟨hbz,fz⟩:=vB G ⟨b,E,z,C,s,q,i⟩ j Z;have g0:j.cell? (aa (Q+1) 0)=some (ii b):=cz hbz;have g1:j.cell? (aa (Q+1) 1)=some (iu E):=cz hbz;have g2:j.cell? (aa (Q+1) 2)=some (ii z):=cz hbz;have g3:j.cell? (aa (Q+1) 3)=some (.bool C):=cz hbz;have g4:j.cell? (aa (Q+1) 4)=some (sc s i.length q):=cz hbz;have H:=hid (zA7 (x:=⟨b,E,z,C,s,q,i⟩) HV.o an.o (B:=Q+1) (by have:=aq.o;omega) (by have:=ai.o;omega) bh.o bj.o fz);rw [<-ac.o] at H;simp only [zF,Vx.sl] at H;go_wp2_with fail;(try rw [Z]);have HE:Hid (o.isSome=is.isSome):=by show _=_;rw [ac.o]
  exact zaB (v:=.tuple #[.agg #[ii b,iu E,ii z,.bool C,sc s i.length q],.bool is.isSome]) (by rw [<-HE.o];simp [results,results78,go_sem,g0,g1,g2,g3,g4]) rfl H.o
 | some r =>
 have ac:=hid (am.o.2 r u w d rfl bc.o);obtain ⟨j,Z⟩:=eE ((((((a.setCell (aa (Q+1) 0) (ii (b+1))).setCell (aa (Q+1) 1) (iu 0)).setCell (aa (Q+1) 2) (ii 0)).setCell (aa (Q+1) 3) (.bool (xM (some r)))).setCell (aa (Q+1) 4) (sc u d.length w)));obtain ⟨hbz,fz⟩:=vB G ⟨b+1,0,0,xM (some r),u,w,d⟩ j Z;have g0:j.cell? (aa (Q+1) 0)=some (ii (b+1)):=cz hbz;have g1:j.cell? (aa (Q+1) 1)=some (iu 0):=cz hbz;have g2:j.cell? (aa (Q+1) 2)=some (ii 0):=cz hbz;have g3:j.cell? (aa (Q+1) 3)=some (.bool (xM (some r))):=cz hbz;have g4:j.cell? (aa (Q+1) 4)=some (sc u d.length w):=cz hbz;have H:=hid (zA7 (o:=some (Vx.ver ⟨b+1,0,0,xM (some r),u,w,d⟩)) (x:=⟨b+1,0,0,xM (some r),u,w,d⟩) HV.o an.o (B:=Q+1) (by have:=aq.o;omega) (by have:=ai.o;omega) rfl bd.o fz);rw [<-ac.o] at H;simp only [zF,Vx.sl] at H;obtain ⟨hy0,hy1⟩:=ba.o;have HE:Hid (is.isSome=true):=by show _=_;rw [ac.o];rfl
 rw [HE.o] at H;go_wp2_with fail;(try rw [Z]);exact zaB (v:=.tuple #[.agg #[ii (b+1),iu 0,ii 0,.bool (xM (some r)),sc u d.length w],.bool true]) (by simp [results,results78,go_sem,g0,g1,g2,g3,g4]) rfl H.o
end
section
variable {W:World} {g:Nat} {m:Mx}
theorem zLV {p:List Tm} (a:nJ p=0) (b:qZ p):qZ (xY p)/\zBh (xY p):=by
 have d:=(zAi a).1;have e:=zES p;have q:qZ (xY p):=⟨by unfold maxLen;omega,fun x c=>b.2 x (((jN p).2 x).1 c)⟩;exact ⟨q,q,by omega⟩
def zDA (W:World) (g:Nat) (mk:Mk) (e:Ending) (w':World):Prop:=∃m' w1,e=.returned (.tuple #[])/\Below W.heap.size W w1/\jE W.heap.size w1 m'/\m'.mk'=mk/\w'=(w1.setCell ⟨g,4,none⟩ m'.ksl).setCell ⟨g,5,none⟩ m'.rsl
theorem zLm (x:W.cell? ⟨g,4,none⟩=some m.ksl) (F:W.cell? ⟨g,5,none⟩=some m.rsl) (A:∀j,W.frozen? ⟨g,j,none⟩=false) (I:MIn W m) (J:zN3 m) (k:Ky):CC 77 #[.pointer (some ⟨g,0,none⟩),.agg #[.string k.1,.string k.2]] W fun e l=>zDA W g (kA m.mk' k) e l:=by
 obtain ⟨V,p⟩:=eE (W.alloc (.cells #[tq k.1,tq k.2] 36));obtain ⟨M,hM⟩:=eE W.heap.size;have G:V.heap[M]? = some (oc #[tq k.1,tq k.2] 36):=by rw [<-p,<-hM];exact xab W _
 have r:Bw W V:=by rw [<-p];exact zaQ
 have U:V.heap.size=M+1:=by rw [<-p,<-hM];simp
 have i:g<W.heap.size:=zI x
 have D:Hid (∀a,Bw V a->a.cell? (aa M 0)=some (tq k.1)/\a.cell? (aa M 1)=some (tq k.2)):=fun a t=>by
  have q:=(t.block M (by omega)).trans G;exact ⟨by rw [zaC q];rfl,by rw [zaC q];rfl⟩
 have w:Hid (∀a,Bw V a->a.cell? (aa g 4)=some m.ksl/\a.cell? (aa g 5)=some m.rsl/\a.frozen? (aa g 4)=false/\a.frozen? (aa g 5)=false):=fun a t=>by
  have q:Bw W a:=zA r r.size t;exact ⟨(q.cell i).trans x,(q.cell i).trans F,(q.frozen i).trans (A 4),(q.frozen i).trans (A 5)⟩
 have E:=hid fun n=>zIu m k (V.drewN n) (I.on (zG r n)) J
 have v:=hid r;obtain ⟨z,B⟩:=D.o V (zaR _ _);obtain ⟨c4,c5,_,_⟩:=w.o V (zaR _ _);obtain ⟨MK,hMK⟩:=eE (kA m.mk' k);rw [hMK] at E ⊢;obtain ⟨ka,kb⟩:=k;obtain ⟨mkp,mkc,mks,mrp,mrc,mrs⟩:=m;simp only [Mx.ksl,Mx.rsl,xE] at *;have C:Hid (M≠g):=by show M≠g;omega
 go_enter func77,ntmps77
 go_upto_region 1 with fail
 (try rw [p]);(try rw [hM]);refine tkb (S:=fun l=>l.cell? (aa M 0)=some (tq ka)/\l.cell? (aa M 1)=some (tq kb)) ⟨z,B⟩ fun hA=>?_;refine tkv3 0 1 2 (jp g) (jp g) (jp g) hA ?_;simp only [Act.put,sz];refine tkv2 3 5 (.pointer (some (aa g 4))) (.agg #[tq ka,tq kb]) hA ?_;simp only [Act.put,sz];refine tkc 4 fun K h=>?_
 go_simp
 go_wp2_with fail
 refine h.out _ _ (⟨z,B⟩) (fun hA=>?_)
 try simp only [Act.put,sz]
 refine tkc 6 fun K h=>?_
 go_simp
 refine (E.o 1).mono ?_;rintro Z c ⟨d,rfl,P,H,L⟩;have s:Bw V c:=zA (zG (zaR V.heap.size V) 1) (by simp) L;have u:=D.o c s;obtain ⟨d4,d5,f4,f5⟩:=w.o c s;have y:Hid (zDA W g MK (.returned (.tuple #[])) ((c.setCell (aa g 4) d.ksl).setCell (aa g 5) d.rsl)):=⟨d,c,rfl,zA v.o v.o.size s,P.weak (by show _<=V.heap.size;omega),H,rfl⟩;obtain ⟨WZ,hWZ⟩:=eE ((c.setCell (aa g 4) d.ksl).setCell (aa g 5) d.rsl)
 have N:WZ.cell? (aa M 0)=some (tq ka)/\WZ.cell? (aa M 1)=some (tq kb):=by
  have f:Fr (fun b=>b=g) c WZ:=by
   rw [<-hWZ];exact (zZ c g 4 _).then (zZ _ g 5 _) fun k O=>xac O
  exact ⟨f.cell u.1 C.o,f.cell u.2 C.o⟩
 rw [hWZ] at y;obtain ⟨ab,Q,X,Y,R,T⟩:=d;simp only [Mx.ksl,Mx.rsl,xE] at *;go_wp2_with fail;refine h.out _ _ u (fun hA=>?_)
 try simp only [Act.put,sz]
 refine tkv2 7 8 (jp g) (.pointer (some (aa g 4))) hA ?_;simp only [Act.put,sz];refine tkc 9 fun K h=>?_
 go_simp
 go_wp2_with fail
 (try rw [hWZ]);refine h.out _ _ N (fun hA=>?_)
 try simp only [Act.put,sz]
 refine tkd ?_;go_wp2_with fail
 go_end0
 exact y.o
theorem zHg (r:W.cell? ⟨g,4,none⟩=some m.ksl) (N:W.cell? ⟨g,5,none⟩=some m.rsl) (s:∀j,W.frozen? ⟨g,j,none⟩=false) (H:MIn W m) (J:zN3 m) (typ:ByteArray) (v:Value) (p:List Tm) (x:KM.Is W v p) (B:qZ p) (y:nJ p=0):CC 83 #[.pointer (some ⟨g,0,none⟩),.string typ,v] W fun e I=>zDA W g (sU m.mk' (typ,xY p)) e I:=by
 have d:g<W.z:=zI r;have C:=hid (zK7 v p W x B);have M:Hid (zIG p=xY p):=by show _=_;unfold zIG;rw [xae y]
 have D:=hid (zLV y B);have K:=hid H;have E:=hid J
 have n:Hid (∀b,Bw W b->b.cell? (aa g 4)=some m.ksl/\b.cell? (aa g 5)=some m.rsl/\b.frozen? (aa g 4)=false/\b.frozen? (aa g 5)=false):=fun b q =>
  ⟨(q.cell d).trans r,(q.cell d).trans N,(q.frozen d).trans (s 4),(q.frozen d).trans (s 5)⟩
 obtain ⟨a,l,i,rfl⟩:∃a l i,v=sc a l i:=by
  obtain ⟨a,i,rfl,_⟩:=x;exact ⟨a,_,i,rfl⟩
 obtain ⟨w,A⟩:=eE (sU m.mk' (typ,xY p));rw [A];have O:=hid A;go_enter func83,ntmps83;go_wp2_with fail;refine C.o.mono ?_;rintro e1 w1 ⟨⟨u,rfl,hu⟩,hb1⟩;rw [M.o] at hu
 obtain ⟨f,h,rfl⟩:∃f h,u=sc f (xY p).length h:=by
  obtain ⟨q,c,e,_⟩:=zC.own_is hu;exact ⟨q,c,e⟩
 obtain ⟨P,Q,_,_⟩:=n.o w1 hb1;have L:=hid (zF2 m ⟨typ,f,h,xY p⟩ w1 (K.o.on hb1) E.o ⟨zC.own_is hu,D.o.2⟩);have k:=hid hb1;have F:Hid (sU m.mk' (Rx.rg ⟨typ,f,h,xY p⟩)=w):=O.o;obtain ⟨mkp,mkc,mks,mrp,mrc,mrs⟩:=m;simp only [Mx.ksl,Mx.rsl,xE,Rx.sl] at *;go_wp2_with fail;refine L.o.mono ?_;rintro e2 w2 ⟨m',rfl,hmo,hmk,hb2⟩;have t:Bw W w2:=zA k.o k.o.size hb2;obtain ⟨d4,d5,f4,f5⟩:=n.o w2 t;have G:Hid (zDA W g w (.returned (.tuple #[])) ((w2.setCell (aa g 4) m'.ksl).setCell (aa g 5) m'.rsl)):=⟨m',w2,rfl,t,hmo.weak k.o.size,hmk.trans F.o,rfl⟩;obtain ⟨nkp,nkc,nks,nrp,nrc,nrs⟩:=m';simp only [Mx.ksl,Mx.rsl,xE] at *;go_wp2_with fail
 go_end0
 exact G.o
end
section
variable {S' S:Sv} {N i:Nat} {w' V:World} {y z:Px} {l:List Px} {x:Tx}
structure Mid (n0 nr:Nat) (W:World) (s:Ps) (c:Nat->Nat) (s':Ps) (c':Nat->Nat) (w:World):Prop where
 prg:zS n0 w s' c'
 fit:xF nr s'
 h:s'.h=s.h
 gs:s'.xs.map Px.g=s.xs.map Px.g
 fr:Fr (fun k=>c k≠0) W w
 lab:∀k,k<W.heap.size->c' k=c k
def cK (n0 nr:Nat) (W:World) (h:Nat) (gs:List Nat) (c:Nat->Nat) (S':Sv) (N:Nat) (w':World):Prop:=∃c',zDa n0 nr w' h gs S' c'/\Fr (fun k=>c k≠0) W w'/\(∀k,k<W.heap.size->c' k=c k)/\W.heap.size<=N/\∀k,N<=k->c' k=0
theorem cK.step {n0 nr:Nat} {W:World} {h:Nat} {a:List Nat} {c:Nat->Nat} (x:cK n0 nr W h a c S' N w'):uN n0 nr W h a c S' w':=by
 obtain ⟨c',d,e,b,_⟩:=x;exact ⟨c',d,e,b⟩
section
variable {n0 nr:Nat} {W:World} {s s':Ps} {c c':Nat→Nat} {w:World}
theorem Mid.start {b:Nat} (x:zS n0 W s c) (f:xF nr s) (d:nr<=b) {w:World} (a:Below W.heap.size W w):Mid n0 b W s c s c w:=⟨x.on a,f.mono d,rfl,rfl,Fr.of_below a,fun _ _=>rfl⟩
theorem Mid.on (m:Mid n0 nr W s c s' c' w) (a:Below w.heap.size w w'):Mid n0 nr W s c s' c' w':=⟨m.prg.on a,m.fit,m.h,m.gs,m.fr.then (Fr.of_below (P:=fun _=>False) a) fun _ k=>k.elim,m.lab⟩
theorem Mid.box {B:Nat} (m:Mid n0 nr W s c s' c' w) (f:Fr (fun k=>k=B) w w') (d:c' B=0) (b:W.heap.size<=B):Mid n0 nr W s c s' c' w':=⟨m.prg.fr f fun k _ a=>by grind,m.fit,m.h,m.gs,m.fr.then f fun k a=>xaf (by omega),m.lab⟩
theorem Mid.sto (m:Mid n0 nr W s c s' c' w):zDa n0 nr w s.h (s.xs.map Px.g) s'.sv c':=⟨s',m.prg,m.fit,m.h,m.gs,rfl⟩
theorem Mid.step (m:Mid n0 nr W s c s' c' w) {S':Sv} (e:s'.sv=S'):uN n0 nr W s.h (s.xs.map Px.g) c S' w:=by
 rw [<-e];exact ⟨c',m.sto,m.fr,m.lab⟩
theorem Mid.stepN (m:Mid n0 nr W s c s' c' w) {S':Sv} (e:s'.sv=S') {N:Nat} (a:W.heap.size<=N) (b:∀k,N<=k->c' k=0):cK n0 nr W s.h (s.xs.map Px.g) c S' N w:=by
 rw [<-e];exact ⟨c',m.sto,m.fr,m.lab,a,b⟩
theorem zS.xat (x:zS n0 W s c) {i:Nat} {y:Px} (a:s.xs[i]? = some y) (b:y.ended=false):XAt W y.g y.snap y.id s.h y.gw y.m.ksl y.m.rsl s.hd s.hs s.hc s.hq s.ht s.vers:=by
 obtain ⟨hi,rfl⟩:=gL a;have h:=(x.txo i hi).1;rw [pQ s.h b] at h;exact ⟨h,x.obj.1⟩
theorem zS.wrt (x:zS n0 W s c) {i:Nat} {y:Px} (a:s.xs[i]? = some y) (b:y.ended=false):∃B,qP n0 W B y.gw y.L/\∀k,B k->c k=8+3 * i:=by
 obtain ⟨hi,rfl⟩:=gL a;exact x.txw i hi b
theorem zS.mrk (x:zS n0 W s c) {i:Nat} {y:Px} (a:s.xs[i]? = some y) (b:y.ended=false):RMk n0 W y.m/\∀k,kN y.m k->c k=9+3 * i:=by
 obtain ⟨hi,rfl⟩:=gL a;exact x.txm i hi b
theorem zS.endis (x:zS n0 W s c) {i:Nat} {y:Px} (a:s.xs[i]? = some y):zHA (.pointer (some ⟨y.g,0,none⟩)) y.ended W:=by
 obtain ⟨hi,rfl⟩:=gL a
 cases he:(s.xs[i]).ended with
 | true=>exact zMK (x.xends i hi he).2
 | false=>exact zN7 (x.xcells i hi he).2.2.1
theorem xF.lot (f:xF nr s) (d:nr<=3500000000000) {i:Nat} {y:Px} (a:s.xs[i]? = some y) (b:y.ended=false):zN3 y.m:=by
 obtain ⟨hi,rfl⟩:=gL a;obtain ⟨h1,h2,_⟩:=f.marks hi b;exact ⟨by omega,by omega⟩
theorem zIL (a:l[i]? = some y):(l.set i z)[i]? = some z:=by grind
theorem zEf (a:l[i]? = some y) (b:z.g=y.g):(l.set i z).map Px.g=l.map Px.g:=by grind [zG5]
theorem qU (a:s.xs[i]? = some y):s.sv.txs[i]? = some y.tx:=by grind [zNl]
theorem xC (h:S.txs[i]? = some x):yA S i x=S:=by
 unfold yA;rw [zAP _ _ _ h]
theorem Mid.mark (x:zS n0 W s c) (f:xF nr s) {i:Nat} {y:Px} (j:s.xs[i]? = some y) (n:y.ended=false) (d:Below W.heap.size W V) {a:Mk} {e:Ending} {w':World} (h:zDA V y.g a e w') (t:a.1.length<=nr+1) (u:a.2.length<=nr+1) (A:∀k∈a.1,yE k) (v:bV a):∃m' c',e=.returned (.tuple #[])/\m'.mk'=a/\Mid n0 (nr+1) W s c { s with xs:=s.xs.set i { y with m:=m' } } c' w'/\(∀k,k<V.heap.size->c' k=c k)/\V.heap.size<=w'.heap.size/\∀k,k<V.heap.size->k≠y.g->w'.heap[k]? = V.heap[k]?:=by
 obtain ⟨hi,rfl⟩:=gL j;obtain ⟨m',w1,rfl,hb1,hmo,hmk,rfl⟩:=h;obtain ⟨q1,q2⟩:=(x.on d).marked hi n hb1 hmo _ rfl;have r:m'.ks=a.1:=xad Prod.fst hmk;have o:m'.rs.map Rx.rg=a.2:=xad Prod.snd hmk;have q:m'.rs.length=a.2.length:=by rw [<-o,zaM]
 refine ⟨m',_,rfl,hmk,⟨q1,?_,rfl,zG5 _ i hi _ rfl,?_,fun k b=>wK (zaT b d.size)⟩,fun k b=>wK b,q2.size,fun k b p=>q2.block k b p⟩
 ·refine f.setX hi _ (xax _) ?_ ⟨by grind,by grind,by grind,by grind⟩ rfl rfl rfl (zFj (f.okx hi) m'.mk');show (s.xs[i]).load+nr<=(s.xs[i]).load+(nr+1);omega
 refine Fr.then (Fr.of_below d) q2 fun k b=>xac ?_
 have:=(x.txo i hi).2.2
 grind
theorem Mid.key (x:zS n0 W s c) (f:xF nr s) (A:nr<=3500000000000) {i:Nat} {y:Px} (a:s.xs[i]? = some y) (b:y.ended=false) (n:Below W.heap.size W V) (k:Ky) (r:yE k):CC 77 #[.pointer (some ⟨y.g,0,none⟩),.agg #[.string k.1,.string k.2]] V fun e w'=>∃m' c',e=.returned (.tuple #[])/\m'.mk'=kA y.m.mk' k/\Mid n0 (nr+1) W s c { s with xs:=s.xs.set i { y with m:=m' } } c' w'/\(∀k,k<V.heap.size->c' k=c k)/\V.heap.size<=w'.heap.size/\∀k,k<V.heap.size->k≠y.g->w'.heap[k]? = V.heap[k]?:=by
 have o:=x.on n;have p:=o.xat a b;obtain ⟨_,_,_,_,v,u⟩:=p.xc;have d:∀j,V.frozen? (aa y.g j)=false:=fun j=>zaF p.x j
 have t:y.m.ks.length<=nr/\y.m.rs.length<=nr/\(∀k∈y.m.ks,yE k)/\bV y.m.mk':=by
  obtain ⟨hi,rfl⟩:=gL a;exact f.marks hi b
 refine (zLm v u d (o.mrk a b).1.inn (f.lot A a b) k).mono fun e w' q=>Mid.mark x f a b n q ?_ ?_ ?_ ?_
 ·have:=zMo y.m.mk' k;have e:y.m.mk'.1.length=y.m.ks.length:=rfl;omega
 ·show (y.m.rs.map Rx.rg).length<=_
  grind
 ·intro z d
  rcases zOl d with rfl|h
  ·exact r
  exact t.2.2.1 z h
 grind [zQT]
theorem Mid.range (x:zS n0 W s c) (f:xF nr s) (D:nr<=3500000000000) {i:Nat} {y:Px} (a:s.xs[i]? = some y) (b:y.ended=false) (d:Below W.heap.size W V) (typ:ByteArray) (v:Value) (p:List Tm) (r:KM.Is V v p) (o:qZ p) (B:nJ p=0):CC 83 #[.pointer (some ⟨y.g,0,none⟩),.string typ,v] V fun e w'=>∃m' c',e=.returned (.tuple #[])/\m'.mk'=sU y.m.mk' (typ,xY p)/\Mid n0 (nr+1) W s c { s with xs:=s.xs.set i { y with m:=m' } } c' w'/\(∀k,k<V.heap.size->c' k=c k)/\V.heap.size<=w'.heap.size/\∀k,k<V.heap.size->k≠y.g->w'.heap[k]? = V.heap[k]?:=by
 have h:=x.on d;have n:=h.xat a b;obtain ⟨_,_,_,_,C,u⟩:=n.xc;have A:∀j,V.frozen? (aa y.g j)=false:=fun j=>zaF n.x j
 have t:y.m.ks.length<=nr/\y.m.rs.length<=nr/\(∀k∈y.m.ks,yE k)/\bV y.m.mk':=by
  obtain ⟨hi,rfl⟩:=gL a;exact f.marks hi b
 refine (zHg C u A (h.mrk a b).1.inn (f.lot D a b) typ v p r o B).mono fun e w' q=>Mid.mark x f a b d q ?_ ?_ ?_ ?_
 ·show y.m.ks.length<=_
  omega
 ·have:=zIg y.m.mk' (typ,xY p);have e:y.m.mk'.2.length=y.m.rs.length:=zaM _;omega
 ·exact t.2.2.1
 grind [zLE,zAi,zES]
end
def XsV (n0 nr:Nat) (W:World) (h:Nat) (gs:List Nat) (c:Nat->Nat) (r:Option Vr × Int) (S':Sv) (e:Ending) (w':World):Prop:=∃x N,e=.returned (.tuple #[.agg (zF x).toArray,.int .i64 r.2])/\x.ver=r.1.getD zeroV/\zW N w' x.sl x.o/\yW x.o/\cK n0 nr W h gs c S' N w'
theorem zJA (h:OkS S) {x:Tx} (b:OkW x.wr) (k:Ky) {v:Vr} (a:isS S.D x k=some v):yZ v.val=true:=by
 unfold isS at a
 split at a
 ·exact h.may k v (zEu a)
 next e he =>
 injection a with a
 rw [<-a]
 cases e with
 | none=>exact pC
 | some val=>exact b.may _ (uV he) val rfl
end
section
variable {i n0 nr:Nat} {y:Px} {W:World} {s:Ps} {c:Nat→Nat}
section
variable {n0 nr:Nat} {W:World} {s:Ps} {c:Nat→Nat}
theorem xF.okw (f:xF nr s) {i:Nat} {y:Px} (a:s.xs[i]? = some y):OkX s.D s.floor s.last y.tx:=by
 obtain ⟨hi,rfl⟩:=gL a;exact f.okx hi
theorem xF.mrk (f:xF nr s) {i:Nat} {y:Px} (b:s.xs[i]? = some y) (a:y.ended=false):y.m.ks.length<=nr/\y.m.rs.length<=nr/\(∀k∈y.m.ks,yE k)/\bV y.m.mk':=by
 obtain ⟨hi,rfl⟩:=gL b;exact f.marks hi a
theorem xF.lod (f:xF nr s) {i:Nat} {y:Px} (b:s.xs[i]? = some y) (a:y.ended=false):s.nv+y.L.length<=nr:=by
 obtain ⟨hi,rfl⟩:=gL b;exact f.load hi a
theorem xF.idb (f:xF nr s) {i:Nat} {y:Px} (b:s.xs[i]? = some y) (a:y.ended=false):y.id=(i:Int)+1/\i<nr:=by
 obtain ⟨hi,rfl⟩:=gL b;exact ⟨f.ids i hi a,by have:=f.nx;omega⟩
theorem Mid.write {V:World} (x:zS n0 W s c) (f:xF nr s) {i:Nat} {y:Px} (p:s.xs[i]? = some y) (g:y.ended=false) (e:Below W.heap.size W V) {B:Nat->Prop} (j:qP n0 V B y.gw y.L) (o:∀k,B k->c k=8+3 * i) {a:List yI} {d:World} (l:tJ n0 V B y.gw a d) (q:a.length<=y.L.length+1) (h:OkX s.D s.floor s.last ⟨y.snap,y.ended,y.m.mk',a⟩):∃c',Mid n0 (nr+1) W s c { s with xs:=s.xs.set i { y with L:=a } } c' d/\(∀k,k<V.heap.size->c' k=c k)/\∀k,k<V.heap.size->c k≠8+3 * i->d.heap[k]? = V.heap[k]?:=by
 obtain ⟨hi,rfl⟩:=gL p;obtain ⟨c',h1,h2,h3⟩:=(x.on e).wrote hi g j o l;obtain ⟨m1,m2,m3⟩:=f.marks hi g;refine ⟨c',⟨h1,?_,rfl,zG5 _ i hi _ rfl,?_,fun k b=>h3 k (zaT b e.size)⟩,h3,fun k b n=>h2.block k b n⟩
 ·refine f.setX hi _ (xax _) ?_ ⟨Nat.le_succ_of_le m1,Nat.le_succ_of_le m2,m3⟩ rfl rfl rfl h
  grind [Px.load]
 refine Fr.then (Fr.of_below e) h2 fun k b=>xac ?_
 omega
end
def XsE (n0 nr:Nat) (W:World) (h:Nat) (gs:List Nat) (c:Nat->Nat) (r:Int) (S':Sv) (e:Ending) (w':World):Prop:=e=.returned (.int .i64 r)/\uN n0 nr W h gs c S' w'
theorem zNJ (x:zS n0 W s c) (f:xF nr s) (hn:nr<=1000000000000) {i:Nat} {y:Px} (p:s.xs[i]? = some y) (k:Ky) (hk:yE k) (v:Value) (o:List Fx) (b:List Fld) (P:wH W v o) (hf:yW o) (ad:o.map Fx.fld=b):CC 30 #[.pointer (some ⟨y.g,0,none⟩),.agg #[.string k.1,.string k.2],v] W fun e d=>XsE n0 (nr+1) W s.h (s.xs.map Px.g) c (wA y.tx k b).1 (yA s.sv i (wA y.tx k b).2) e d:=by
 obtain ⟨V,E⟩:=eE (W.alloc (.cells #[tq k.1,tq k.2] 36));obtain ⟨M,hM⟩:=eE W.heap.size;have Y:V.heap[M]? = some (oc #[tq k.1,tq k.2] 36):=by rw [<-E,<-hM];exact xab W _
 have j:Bw W V:=by rw [<-E];exact zaQ
 have ae:V.heap.size=M+1:=by rw [<-E,<-hM];simp
 have HB:=hid j;have ai:=hid ae;have Z:V.cell? (aa M 0)=some (tq k.1):=cz Y;have c1:V.cell? (aa M 1)=some (tq k.2):=cz Y;have r:=hid ((x.on j).endis p V (zaR _ _));have C:=hid x;have U:=hid f;have J:=hid p
 obtain ⟨a,l,z,rfl⟩:∃a l z,v=sc a l z:=by
  obtain ⟨a,z,rfl,_⟩:=P
  grind
 cases hE:y.ended with
 | true =>
  have A:Hid (wA y.tx k b=(12,y.tx)):=by
   show _=_
   unfold wA;rw [xae (show y.tx.ended=true from hE)]
  rw [hE] at r
  generalize wA y.tx k b=RS at *
  have N:Hid (XsE n0 (nr+1) W s.h (s.xs.map Px.g) c RS.1 (yA s.sv i RS.2) (.returned (ii 12)) V):=by
   show XsE _ _ _ _ _ _ _ _ _ _
   rw [A.o];exact ⟨rfl,(Mid.start C.o U.o (xax nr) HB.o).step (xC (qU J.o)).symm⟩
  obtain ⟨u,q⟩:=k;simp only at *
  generalize y.g=g at *
  go_enter func30,ntmps30
  go_wp2_with fail
  refine r.o.mono ?_;rintro D w1 ⟨rfl,rfl⟩;go_wp2_with fail;go_ret;exact N.o
 | false =>
 have A:Hid (wA y.tx k b=(tB k b,⟨y.snap,y.ended,y.m.mk',mE y.L k b⟩)):=by
  show _=_
  unfold wA;rw [xag (show ¬ y.tx.ended=true by show ¬ y.ended=true;grind)];rfl
 have T:=zQK (f.okw p) k b;rw [A.o] at T;have ab:=hid T;rw [hE] at r;have xa:=(x.on j).xat p hE;obtain ⟨_,_,_,t,_⟩:=xa.xc;obtain ⟨B,hw,hB⟩:=(x.on j).wrt p hE;have af:=f.lod p hE;have HP:=hid fun n=>zOS (n0:=n0) (B:=B) (by obtain ⟨m,F,O,hu⟩:=hw;exact ⟨m,F,O,hu.on (zG (zaR V.heap.size V) n)⟩) (zaU (x.on j).base (by simp)) (by omega) k hk (sc a l z) o b (P.kept (zG j n)) hf ad
 have G:Hid (∀d,tJ n0 (V.drewN 1) B y.gw (mE y.L k b) d->uN n0 (nr+1) W s.h (s.xs.map Px.g) c (yA s.sv i ⟨y.snap,y.ended,y.m.mk',mE y.L k b⟩) d/\(d.cell? (aa M 0)=some (tq k.1)/\d.cell? (aa M 1)=some (tq k.2)/\d.cell? (aa y.g 3)=some (jp y.gw))):=fun d H=>by
  have ac:Bw W (V.drewN 1):=zG j 1;obtain ⟨c',I,q2,R⟩:=Mid.write C.o U.o J.o hE ac (by obtain ⟨m,F,O,hu⟩:=hw;exact ⟨m,F,O,hu.on (zG (zaR V.heap.size V) 1)⟩) hB H (zNu _ k b) ab.o;have ag:c M=0:=C.o.out M (by omega)
  have ah:c y.g=7+3 * i:=by
   obtain ⟨hi,rfl⟩:=gL J.o;exact (C.o.txo i hi).2.2
  have D:d.heap[M]? = V.heap[M]?:=R M (by simp_all) (by omega);have Q:d.heap[y.g]? = V.heap[y.g]?:=R y.g (zI (w:=V) t) (by omega);exact ⟨I.step (uC _ _ _),(xap (a:=(aa M 0)) D).trans Z,(xap (a:=(aa M 1)) D).trans c1,(xap (a:=(aa y.g 3)) Q).trans t⟩
 generalize wA y.tx k b=RS at *
 obtain ⟨u,q⟩:=k;simp only at *;obtain ⟨g,hg⟩:=eE y.g;obtain ⟨gw,hgw⟩:=eE y.gw;rw [hg] at r t G ⊢;rw [hgw] at t G HP
 generalize tB (u,q) b=CD at *
 generalize mE y.L (u,q) b=L' at *
 go_enter func30,ntmps30
 go_wp2_with fail
 refine r.o.mono ?_;rintro D w1 ⟨rfl,rfl⟩;go_upto_region 3 with fail
 refine tkb (S:=fun d=>d.cell? (aa M 0)=some (tq u)/\d.cell? (aa M 1)=some (tq q)/\d.cell? (aa g 3)=some (jp gw)) ⟨Z,c1,t⟩ fun hA=>?_;refine tkv4 0 1 2 3 (jp g) (jp g) (.pointer (some (aa g 3))) (jp gw) hA ?_;simp only [Act.put,sz];refine tkv2 4 5 (.agg #[tq u,tq q]) (sc a l z) hA ?_;simp only [Act.put,sz];refine tkc 6 fun K hK=>?_
 go_simp
 refine (HP.o 1).mono ?_;rintro Q X ⟨rfl,H⟩;obtain ⟨I,hS2⟩:=G.o X H
 have N:Hid (XsE n0 (nr+1) W s.h (s.xs.map Px.g) c RS.1 (yA s.sv i RS.2) (.returned (ii CD)) X):=by
  show XsE _ _ _ _ _ _ _ _ _ _
  rw [A.o];exact ⟨rfl,I⟩
 go_wp2_with fail
 refine hK.out _ _ hS2 (fun hA=>?_)
 try simp only [Act.put,sz]
 refine tkv 7 (ii CD) hA ?_;simp only [Act.put,sz];refine tkd ?_;go_wp2_with fail;go_ret;exact N.o
theorem zLQ (x:zS n0 W s c) (f:xF nr s) {i:Nat} {y:Px} (n:s.xs[i]? = some y):CC 45 #[.pointer (some ⟨y.g,0,none⟩)] W fun e C=>e=.returned (.tuple #[])/\uN n0 (nr+1) W s.h (s.xs.map Px.g) c (yA s.sv i (nS y.tx)) C:=by
 have d:=hid (x.endis n W (zaR _ _))
 cases hE:y.ended with
 | true =>
  have w:Hid (nS y.tx=y.tx):=by
   show _=_
   unfold nS;rw [xae (show y.tx.ended=true from hE)]
  rw [hE] at d
  have j:Hid (uN n0 (nr+1) W s.h (s.xs.map Px.g) c (yA s.sv i (nS y.tx)) W):=by
   show uN _ _ _ _ _ _ _ _
   rw [w.o];exact (Mid.start x f (xax nr) (zaR _ _)).step (xC (qU n)).symm
  generalize y.g=g at *
  go_enter func45,ntmps45
  go_wp2_with fail
  refine d.o.mono ?_;rintro E a ⟨rfl,rfl⟩;go_wp2_with fail
  go_end0
  exact ⟨rfl,j.o⟩
 | false =>
 rw [hE] at d;have F:=hid (zGo n0 W x.base)
 have j:Hid (∀a B b,Bw W a->qP n0 a B b []->(∀k,B k->W.z<=k)->uN n0 (nr+1) W s.h (s.xs.map Px.g) c (yA s.sv i (nS y.tx)) (a.setCell (aa y.g 3) (jp b))/\a.cell? (aa y.g 3)=some (jp y.gw)/\a.frozen? (aa y.g 3)=false):=fun a B b l p q=>by
  have v:=(x.on l).xat n hE;refine ⟨?_,v.xc.2.2.2.1,zaF v.x 3⟩;obtain ⟨hi,rfl⟩:=gL n;obtain ⟨q1,q2⟩:=x.dropped hi hE l p q _ rfl;obtain ⟨m1,m2,m3⟩:=f.marks hi hE
  have t:nS (s.xs[i]).tx=⟨(s.xs[i]).snap,(s.xs[i]).ended,(s.xs[i]).m.mk',[]⟩:=by
   unfold nS;rw [xag (show ¬ (s.xs[i]).tx.ended=true by show ¬ (s.xs[i]).ended=true;grind)];rfl
  have u:=zO8 (f.okx hi);rw [t] at u;have m:Mid n0 (nr+1) W s c { s with xs:=s.xs.set i { s.xs[i] with gw:=b,L:=[] } } (lab W B c (8+3 * i)) _:=⟨q1,f.setX hi _ (xax _) (by grind [Px.load]) ⟨Nat.le_succ_of_le m1,Nat.le_succ_of_le m2,m3⟩ rfl rfl rfl u,rfl,zG5 _ i hi _ rfl,q2.mono fun k r=>by rw [r,(x.txo i hi).2.2];omega,fun k r=>wK r⟩;rw [t];exact m.step (uC _ _ _)
 generalize nS y.tx=D' at *
 obtain ⟨g,D⟩:=eE y.g;rw [D] at d j ⊢;go_enter func45,ntmps45;go_wp2_with fail;refine d.o.mono ?_;rintro E a ⟨rfl,rfl⟩;go_wp2_with fail;refine F.o.mono ?_;rintro e2 w2 ⟨B,b,rfl,p,l,q⟩;obtain ⟨q1,q2,q3⟩:=j.o w2 B b l p q;have A:=hid q1;go_wp2_with fail
 go_end0
 exact ⟨rfl,A.out⟩
def XsM (n0 nr:Nat) (W:World) (h:Nat) (gs:List Nat) (c:Nat->Nat) (mk:Mk) (S':Sv) (e:Ending) (w':World):Prop:=∃m N,e=.returned (.agg (xE m).toArray)/\jE N w' m/\m.mk'=mk/\(∀k∈m.ks,yE k)/\cK n0 nr W h gs c S' N w'
theorem zBM (N:Nat) (W:World):jE N W ⟨none,0,[],none,0,[]⟩:=⟨zC.own_nil _ _ _,zC.own_nil _ _ _,(fun _ h=>by cases h),xan⟩
theorem zKX {w:World} {X:Nat} (d:w.heap[X]? = some (.cells #[.slice none 0 0,.slice none 0 0] 49 (0,0))) (m:Mx) (a:World) (e:(w.setCell ⟨X,0,none⟩ m.ksl).setCell ⟨X,1,none⟩ m.rsl=a):a.heap[X]? = some (.cells #[m.ksl,m.rsl] 49 (0,0))/\Fr (fun b=>b=X) w a:=by
 rw [<-e];exact ⟨xaa _ X 1 _ _ _ (xaa _ X 0 _ _ _ d),(zZ w X 0 _).then (zZ _ X 1 _) fun k f=>xac f⟩
theorem zI4 (x:zS n0 W s c) (f:xF nr s) (hn:nr<1500000000000) {i:Nat} {y:Px} (t:s.xs[i]? = some y):CC 15 #[.pointer (some ⟨y.g,0,none⟩)] W fun e P=>XsM n0 nr W s.h (s.xs.map Px.g) c (sX y.tx) s.sv e P:=by
 obtain ⟨V,E⟩:=eE (W.alloc (.cells #[sc none 0 0,sc none 0 0] 49));obtain ⟨M,hM⟩:=eE W.heap.size;have p:V.heap[M]? = some (oc #[sc none 0 0,sc none 0 0] 49):=by rw [<-E,<-hM];exact xab W _
 have j:Bw W V:=by rw [<-E];exact zaQ
 have Y:V.heap.size=M+1:=by rw [<-E,<-hM];simp
 have w:=hid ((x.on j).endis t V (zaR _ _))
 have I:Hid (∀(l a:World) (m:Mx),Bw V l->jE V.heap.size l m->m.mk'=sX y.tx->Fr (fun b=>b=M) l a->XsM n0 nr W s.h (s.xs.map Px.g) c (sX y.tx) s.sv (.returned (.agg #[m.ksl,m.rsl])) a):=fun l a m T D A n=>by
  have H:W.heap.size<=M:=by omega
  have q:=(Mid.start x f (zaL nr) (zA j j.size T)).box n (x.out _ H) H;refine ⟨m,V.heap.size,rfl,D.fr n fun k d=>by omega,A,fun k d=>?_,q.stepN rfl j.size fun k d=>x.out k (zaU j.size d)⟩;have e:m.ks=(sX y.tx).1:=xad Prod.fst A;rw [e] at d;unfold sX at d
  split at d
  ·cases d
  next h =>
  have h:¬ y.ended=true:=h;exact (f.mrk t (by simpa using h)).2.2.1 k d
 cases hE:y.ended with
 | true =>
  have F:Hid (sX y.tx=([],[])):=by
   show _=_
   unfold sX;rw [xae (show y.tx.ended=true from hE)]
  rw [hE] at w;obtain ⟨a,u⟩:=eE ((V.setCell (aa M 0) (sc none 0 0)).setCell (aa M 1) (sc none 0 0));obtain ⟨hbz,n⟩:=zKX p ⟨none,0,[],none,0,[]⟩ a u;have z:=hid (I.o V a ⟨none,0,[],none,0,[]⟩ (zaR _ _) (zBM _ _) F.o.symm n);have J:V.cell? (aa M 0)=some (sc none 0 0):=cz p;have N:V.cell? (aa M 1)=some (sc none 0 0):=cz p;have X:V.frozen? (aa M 0)=false:=zaF p 0;have Z:V.frozen? (aa M 1)=false:=zaF p 1;have G:a.cell? (aa M 0)=some (sc none 0 0):=cz hbz;have B:a.cell? (aa M 1)=some (sc none 0 0):=cz hbz;simp only [Mx.ksl,Mx.rsl,xbi] at z
  generalize sX y.tx=MK at *
  generalize y.g=g at *
  go_enter func15,ntmps15
  go_wp2_with fail
  refine w.o.mono ?_;rintro U l ⟨rfl,rfl⟩;go_wp2_with fail;(try rw [u]);exact zaB (v:=.agg #[sc none 0 0,sc none 0 0]) (by simp [results,results15,go_sem,G,B]) rfl z.o
 | false =>
 rw [hE] at w;have O:=(x.on j).xat t hE;obtain ⟨_,_,_,_,Q,R⟩:=O.xc;obtain ⟨m1,m2,_,m4⟩:=f.mrk t hE
 have F:Hid (zC3 y.m.mk' (Mx.mk' ⟨none,0,[],none,0,[]⟩)=sX y.tx):=by
  show _=_
  rw [show Mx.mk' ⟨none,0,[],none,0,[]⟩=([],[]) from rfl,zLu m4];unfold sX;rw [xag (show ¬ y.tx.ended=true by show ¬ y.ended=true;grind)];rfl
 have C:=hid (zFJ y.m ⟨none,0,[],none,0,[]⟩ V ((x.on j).mrk t hE).1.inn (zBM V.heap.size V).inn ⟨by omega,by omega⟩ ⟨by decide,by decide⟩);rw [F.o] at C;have L:=hid p;have S:=hid Y
 generalize sX y.tx=MK at *
 generalize y.g=g at *
 obtain ⟨K,D⟩:=eE y.m;rw [D] at Q R C;obtain ⟨mkp,mkc,mks,mrp,mrc,mrs⟩:=K;simp only [Mx.ksl,Mx.rsl,xE,xbi] at *;go_enter func15,ntmps15;go_wp2_with fail;refine w.o.mono ?_;rintro U l ⟨rfl,rfl⟩;go_wp2_with fail;refine C.o.mono ?_;rintro e2 w2 ⟨m',rfl,hmo,A,hb2⟩;have r:w2.heap[M]? = some (oc #[sc none 0 0,sc none 0 0] 49):=(hb2.block M (by have:=S.o;omega)).trans L.o;obtain ⟨a,u⟩:=eE ((w2.setCell (aa M 0) m'.ksl).setCell (aa M 1) m'.rsl);obtain ⟨hbz,n⟩:=zKX r m' a u;have z:=hid (I.o w2 a m' hb2 hmo A n);have J:w2.cell? (aa M 0)=some (sc none 0 0):=cz r;have N:w2.cell? (aa M 1)=some (sc none 0 0):=cz r;have X:w2.frozen? (aa M 0)=false:=zaF r 0;have Z:w2.frozen? (aa M 1)=false:=zaF r 1;have G:a.cell? (aa M 0)=some m'.ksl:=cz hbz;have B:a.cell? (aa M 1)=some m'.rsl:=cz hbz;obtain ⟨nkp,nkc,nks,nrp,nrc,nrs⟩:=m';simp only [Mx.ksl,Mx.rsl,xE] at *;go_wp2_with fail;(try rw [u]);exact zaB (v:=.agg #[sc nkp nks.length nkc,sc nrp nrs.length nrc]) (by simp [results,results15,go_sem,G,B]) rfl z.o
def zQi (sn:Int):List Value:=[.int .u64 sn,.int .i64 0,.pointer none,.pointer none,.slice none 0 0,.slice none 0 0]
theorem zGH (x:zS n0 W s c) {i:Nat} {y:Px} (u:s.xs[i]? = some y) (I:y.ended=false) (O:MU.fit y.id):CC 63 #[.pointer (some ⟨y.g,0,none⟩)] W fun e f=>e=.returned (.tuple #[])/\∃c',zS n0 f { s with xs:=s.xs.set i { y with ended:=true },os:=yM s.os y.id } c'/\(∀k,k<W.heap.size->c' k=c k)/\Fr (fun k=>c k=4∨c k=7+3 * i) W f:=by
 have r:=x.xat u I;obtain ⟨P,F,A,_⟩:=r.xc;obtain ⟨_,_,_,s3,_⟩:=r.sc;obtain ⟨B,hq,hB⟩:=x.snp;have HX:=Go.Proofs.hid x;have E:=Go.Proofs.hid fun n=>zFy n0 s.hq s.os s.floor y.id B (W.drewN n) (hq.on (zG (zaR W.z W) n)) O
 have ae:c y.g=7+3 * i:=by
  obtain ⟨hi,rfl⟩:=gL u;exact (x.txo i hi).2.2
 have ad:c s.h=1:=x.obj.2.2
 have C:Hid (∀a,vA n0 (W.drewN 1) B s.hq (yM s.os y.id) s.floor a->(a.cell? (aa y.g 1)=some (ii y.id)/\a.cell? (aa y.g 2)=some (jp s.h)/\a.cell? (aa s.h 3)=some (jp s.hq))/\a.heap[y.g]? = some (oc #[iu y.snap,ii y.id,jp s.h,jp y.gw,y.m.ksl,y.m.rsl] 106) /\
   ∀f,Fr (fun b=>b=y.g) a f->f.heap[y.g]? = some (oc (zQi y.snap).toArray 106)->∃c',zS n0 f { s with xs:=s.xs.set i { y with ended:=true },os:=yM s.os y.id } c'/\(∀k,k<W.z->c' k=c k)/\Fr (fun k=>c k=4∨c k=7+3 * i) W f):=fun a w=>by
  obtain ⟨M,X,l,Y⟩:=w;have f1':Fr B W a:=⟨l.os,l.tape,l.output,l.size,l.block⟩
  have t:=HX.o.turn (s':={ s with os:=yM s.os y.id }) 4 hB f1' (B':=M) X (fun k d=>Y k d) (fun q Q=>by
   unfold uG;simp only [Q,if_false];rfl) fun k d=>(hq.blk k d).2
  have V:¬ B y.g:=fun e=>by grind
  have ac:¬ B s.h:=fun e=>by grind
  have p:=r.fr f1' V ac;refine ⟨⟨p.xc.2.1,p.xc.2.2.1,p.sc.2.2.2.1⟩,p.x,fun f D j=>?_⟩;obtain ⟨hi,rfl⟩:=gL u;refine ⟨_,t.ended (i:=i) hi D ?_,fun k d=>wK d,Fr.then (f1'.mono fun k d=>xac (hB k d)) D fun k d=>xac (xaf (by grind))⟩;exact j
 obtain ⟨N,L⟩:=eE ({ s with xs:=s.xs.set i { y with ended:=true },os:=yM s.os y.id }:Ps);rw [L] at C ⊢;obtain ⟨g,hg⟩:=eE y.g;rw [hg] at P F A C ⊢
 generalize y.id=yid at *
 generalize yM s.os yid=OS at *
 obtain ⟨h,v⟩:=eE s.h;obtain ⟨q,hqq⟩:=eE s.hq;rw [v,hqq] at s3;rw [v] at A;rw [hqq] at E
 have T:Hid (∀a,vA n0 (W.drewN 1) B q OS s.floor a->(a.cell? (aa g 1)=some (ii yid)/\a.cell? (aa g 2)=some (jp h)/\a.cell? (aa h 3)=some (jp q))/\a.heap[g]? = some (oc #[iu y.snap,ii yid,jp h,jp y.gw,y.m.ksl,y.m.rsl] 106) /\
   ∀f,Fr (fun b=>b=g) a f->f.heap[g]? = some (oc (zQi y.snap).toArray 106)->∃c',zS n0 f N c'/\(∀k,k<W.z->c' k=c k)/\Fr (fun k=>c k=4∨c k=7+3 * i) W f):=by
  rw [<-hqq,<-v];exact C.o
 go_enter func63,ntmps63
 go_upto_region 0 with fail
 refine tkb (S:=fun f=>f.cell? (aa g 1)=some (ii yid)/\f.cell? (aa g 2)=some (jp h)/\f.cell? (aa h 3)=some (jp q)) ⟨F,A,s3⟩ fun hA=>?_;refine tkv4 0 1 2 3 (jp g) (jp g) (.pointer (some (aa g 2))) (jp h) hA ?_;simp only [Act.put,sz];refine tkv4 4 5 6 7 (jp h) (jp h) (.pointer (some (aa h 3))) (jp q) hA ?_;simp only [Act.put,sz];refine tkv4 8 9 10 11 (jp g) (jp g) (.pointer (some (aa g 1))) (ii yid) hA ?_;simp only [Act.put,sz];refine tkc 12 fun K G=>?_
 go_simp
 refine (E.o 1).mono ?_;rintro e1 a ⟨rfl,w⟩;obtain ⟨hS1,j,hfin⟩:=T.o a w;have Z:=Go.Proofs.hid hfin
 generalize y.snap=sn at *
 generalize y.gw=gw at *
 obtain ⟨H,J⟩:=eE y.m;rw [J] at j;obtain ⟨mkp,mkc,mks,mrp,mrc,mrs⟩:=H;simp only [Mx.ksl,Mx.rsl] at j;obtain ⟨WZ,hWZ⟩:=eE ((((((a.setCell (aa g 0) (iu sn)).setCell (aa g 1) (ii 0)).setCell (aa g 2) (.pointer none)).setCell (aa g 3) (.pointer none)).setCell (aa g 4) (sc none 0 0)).setCell (aa g 5) (sc none 0 0))
 have ab:WZ.heap[g]? = some (oc (zQi sn).toArray 106):=by
  rw [<-hWZ];exact xaa _ g 5 _ _ _ (xaa _ g 4 _ _ _ (xaa _ g 3 _ _ _ (xaa _ g 2 _ _ _ (xaa _ g 1 _ _ _ (xaa _ g 0 _ _ _ j)))))
 have U:Fr (fun b=>b=g) a WZ:=by
  rw [<-hWZ];exact (((((zZ a g 0 _).then (zZ _ g 1 _) fun k d=>xac d).then (zZ _ g 2 _) fun k d=>xac d).then (zZ _ g 3 _) fun k d=>xac d).then (zZ _ g 4 _) fun k d=>xac d).then (zZ _ g 5 _) fun k d=>xac d
 have R:=Go.Proofs.hid (Z.o WZ U ab);have y0:a.cell? (aa g 0)=some (iu sn):=cz j;have y1:a.cell? (aa g 1)=some (ii yid):=cz j;have y2:a.cell? (aa g 2)=some (jp h):=cz j;have y3:a.cell? (aa g 3)=some (jp gw):=cz j;have y4:a.cell? (aa g 4)=some (sc mkp mks.length mkc):=cz j;have y5:a.cell? (aa g 5)=some (sc mrp mrs.length mrc):=cz j;have z0:=zaF j;go_wp2_with fail;refine G.out _ _ hS1 (fun hA=>?_)
 try simp only [Act.put,sz]
 refine tkd ?_;go_wp2_with fail;(try rw [hWZ])
 go_end0
 exact ⟨rfl,R.o⟩
end
section
variable {n0 n:Nat} {W:World} {s:Ps} {c:Nat→Nat} {D:List zQ}
theorem zS.stat (x:zS n0 W s c):zBi W s.h s.hd s.hs s.hc s.hq s.ht s.vers:=x.obj.1
theorem zL8 {l:Nat} (x:zS n0 W s c) (f:xF l s) (H:l<=2000000000000) {i:Nat} {y:Px} (a:s.xs[i]? = some y):CC 19 #[.pointer (some ⟨y.g,0,none⟩)] W fun e d=>e=.returned (.bool (sE s.sv i y.tx).1)/\uN n0 l W s.h (s.xs.map Px.g) c (sE s.sv i y.tx).2 d:=by
 have j:=hid (x.endis a W (zaR _ _))
 cases hE:y.ended with
 | true =>
  have p:Hid (sE s.sv i y.tx=(false,s.sv)):=by
   show _=_
   have e:{ y.tx with ended:=true }=y.tx:=by
    show Tx.mk y.snap true y.m.mk' y.L=Tx.mk y.snap y.ended y.m.mk' y.L
    rw [hE]
   unfold sE;rw [e,xC (qU a)];show (!y.ended,s.sv)=_;rw [hE];rfl
  rw [hE] at j;have q:=hid ((Mid.start x f (zaL l) (zaR _ _)).step rfl)
  generalize sE s.sv i y.tx=R at *
  generalize y.g=g at *
  go_enter func19,ntmps19
  go_wp2_with fail
  refine j.o.mono ?_;rintro C A ⟨rfl,rfl⟩;go_wp2_with fail;go_ret;rw [p.o];exact ⟨rfl,q.o⟩
 | false =>
 have p:Hid ((sE s.sv i y.tx).1=true):=by
  show (!y.ended)=true
  rw [hE];rfl
 rw [hE] at j;obtain ⟨E,F⟩:=f.idb a hE;have r:=hid (zGH x a hE (zJr (by omega) (by omega)))
 have q:Hid (∀d b,zS n0 d { s with xs:=s.xs.set i { y with ended:=true },os:=yM s.os y.id } b->(∀k,k<W.z->b k=c k)->Fr (fun k=>c k=4∨c k=7+3 * i) W d->uN n0 l W s.h (s.xs.map Px.g) c (sE s.sv i y.tx).2 d):=fun d b v B w=>by
  refine ⟨b,⟨_,v,?_,rfl,zEf a rfl,?_⟩,w.mono fun k G=>by omega,B⟩
  ·obtain ⟨hi,rfl⟩:=gL a;exact f.ends hi hE
  exact uC s i { y with ended:=true }
 generalize sE s.sv i y.tx=R at *
 obtain ⟨g,t⟩:=eE y.g;rw [t] at j r ⊢;go_enter func19,ntmps19;go_wp2_with fail;refine j.o.mono ?_;rintro C A ⟨rfl,rfl⟩;go_wp2_with fail;refine r.o.mono ?_;rintro e2 w2 ⟨rfl,b,q1,q2,q3⟩;rw [<-t] at q1;have u:=hid (q.o w2 b q1 q2 q3);go_wp2_with fail;go_ret;rw [p.o];exact ⟨rfl,u.o⟩
section
variable {W:World} {h hd hs hc hq ht:Nat} {vers:Int}
theorem zB7 (x:zBi W h hd hs hc hq ht vers) (hD:uP n0 hd n D W) (hn:n<=2400000000000):CC 18 #[.pointer (some ⟨h,0,none⟩)] W fun e w'=>e=.returned (.int .i64 (zT D:Nat))/\Below W.heap.size W w':=by
 have HH:=hid (qT x);have HL:Hid (∀w',Bw W w'->CC 62 #[jp hd] w' fun e w2=>e=.returned (ii (zT D:Nat))/\Bw w' w2):=fun w' hb=>zP1 (hD.on hb) hn
 unfold uD at HH;have hfd:=uA (some (aa hd 0)) (some (aa hs 0)) (some (aa hc 0)) (some (aa hq 0)) (some (aa ht 0))
 generalize zT D=cnt at *
 go_enter func18,ntmps18
 go_wp2_with fail
 refine HH.o.mono ?_;rintro e w1 ⟨rfl,hb⟩;have HB:=hid hb;have HL2:=hid (HL.o w1 hb);go_wp2_with fail;refine HL2.o.mono ?_;rintro e w2 ⟨rfl,hb2⟩;have HB2:=hid (zA HB.o HB.o.size hb2);go_wp2_with fail;go_ret;exact ⟨rfl,HB2.o⟩
theorem zDi {B:Nat->Prop} {t:Tk} (x:zBi W h hd hs hc hq ht vers) (i:zBJ n0 W B ht t):CC 25 #[.pointer (some ⟨h,0,none⟩)] W fun e a=>e=.returned (.int .i64 (t.kept.length:Nat))/\Below W.heap.size W a:=by
 have f:=hid (qT x)
 have m:Hid (∀a,Bw W a->CC 70 #[jp ht] a fun e d=>e=.returned (ii (t.kept.length:Nat))/\Bw a d):=fun a b=>by
  obtain ⟨v,q,u,j,_⟩:=i;exact zNy (j.on b)
 unfold uD at f;have r:=uA (some (aa hd 0)) (some (aa hs 0)) (some (aa hc 0)) (some (aa hq 0)) (some (aa ht 0))
 generalize t.kept.length=cnt at *
 go_enter func25,ntmps25
 go_wp2_with fail
 refine f.o.mono ?_;rintro e p ⟨rfl,b⟩;have g:=hid b;have l:=hid (m.o p b);go_wp2_with fail;refine l.o.mono ?_;rintro e d ⟨rfl,hb2⟩;have k:=hid (zA g.o g.o.size hb2);go_wp2_with fail;go_ret;exact ⟨rfl,k.o⟩
theorem zA9 (x:zBi W h hd hs hc hq ht vers) (Y:uP n0 hd n D W) (k:Ky) (A:yO k) (t:Int):CC 22 #[.pointer (some ⟨h,0,none⟩),.agg #[.string k.1,.string k.2],.int .u64 t] W fun e i=>vZ W (atV (ofD D k) t) e i:=by
 obtain ⟨j,p,C,y⟩:=vD W #[tq k.1,tq k.2] #[ii 0,iu 0,ii 0,.bool false,sc none 0 0] 36 42;obtain ⟨V,hV⟩:=eE ((W.alloc (.cells #[tq k.1,tq k.2] 36)).alloc (.cells #[ii 0,iu 0,ii 0,.bool false,sc none 0 0] 42));obtain ⟨Q,hQ⟩:=eE W.heap.size;rw [hV] at j p C y;rw [hQ] at p C y;have HV:=hid j;have N:Hid (V.heap.size=Q+2):=y;have ac:Hid (W.heap.size=Q):=hQ;have O:=hid C;have M:V.cell? (aa Q 0)=some (tq k.1):=cz p;have J:V.cell? (aa Q 1)=some (tq k.2):=cz p;have q:Hid (∀m,Fr (fun b=>b=Q+1) V m->m.cell? (aa Q 0)=some (tq k.1)/\m.cell? (aa Q 1)=some (tq k.2)):=fun m f=>⟨f.cell M (by show ¬ Q=Q+1;omega),f.cell J (by show ¬ Q=Q+1;omega)⟩
 have I:=hid fun F=>qT (W:=V.drewN F) (x.on (zG j F))
 have G:Hid (∀a,Bw V a->CC 67 #[jp hd,.agg #[tq k.1,tq k.2],iu t] a fun e i=>vZ a (atV (ofD D k) t) e i):=fun a hb=>zR4 ((Y.on j).on hb) k A t
 have ag:=uA (some (aa hd 0)) (some (aa hs 0)) (some (aa hc 0)) (some (aa hq 0)) (some (aa ht 0));obtain ⟨o,ho⟩:=eE (atV (ofD D k) t);rw [ho] at G ⊢;obtain ⟨ka,kb⟩:=k;simp only at *;unfold uD at I;go_enter func22,ntmps22;go_upto_region 1 with fail
 (try rw [hV]);(try rw [hQ]);refine tkb (S:=fun i=>i.cell? (aa Q 0)=some (tq ka)/\i.cell? (aa Q 1)=some (tq kb)) ⟨M,J⟩ fun c=>?_;refine tkv3 0 3 4 (jp h) (.agg #[tq ka,tq kb]) (iu t) c ?_;simp only [Act.put,sz];refine tkc 1 fun K l=>?_
 go_simp
 refine (I.o 1).mono ?_;rintro e0 u ⟨rfl,j⟩;have r:Bw V u:=zA (zG (zaR V.heap.size V) 1) (by simp) j;have P:=q.o u (Fr.of_below r);have Z:=hid (G.o u r);have w:=hid r;go_wp2_with fail;refine l.out _ _ P (fun c=>?_)
 try simp only [Act.put,sz]
 refine tkv 2 (jp hd) c ?_;simp only [Act.put,sz];refine tkc 5 fun K l=>?_
 go_simp
 refine Z.o.mono ?_;rintro e1 a ⟨z,rfl,T,hj,ad⟩;have E:Bw V a:=zA w.o w.o.size ad;have H:=hid E;have d:a.heap[Q+1]? = some (oc #[ii 0,iu 0,ii 0,.bool false,sc none 0 0] 42):=(E.block _ (by have:=N.o;omega)).trans O.o;have U:=q.o a (Fr.of_below E);have HJ:Hid (zW V.heap.size a z.sl z.o):=zM hj w.o.size;have ae:=hid T;obtain ⟨xn,xs,xt,xl,xp,xc,xo⟩:=z;simp only [zF,Vx.sl] at *;go_wp2_with fail;refine l.out _ _ U (fun c=>?_)
 try simp only [Act.put,sz]
 refine tkv2 6 7 (.agg #[ii xn,iu xs,ii xt,.bool xl,sc xp xo.length xc]) (.bool o.isSome) c ?_;simp only [Act.put,sz];obtain ⟨g,L⟩:=eE ((((((a.setCell (aa (Q+1) 0) (ii xn)).setCell (aa (Q+1) 1) (iu xs)).setCell (aa (Q+1) 2) (ii xt)).setCell (aa (Q+1) 3) (.bool xl)).setCell (aa (Q+1) 4) (sc xp xo.length xc)));obtain ⟨hbz,fz⟩:=vB d ⟨xn,xs,xt,xl,xp,xc,xo⟩ g L;have y0:a.cell? (aa (Q+1) 0)=some (ii 0):=cz d;have y1:a.cell? (aa (Q+1) 1)=some (iu 0):=cz d;have y2:a.cell? (aa (Q+1) 2)=some (ii 0):=cz d;have y3:a.cell? (aa (Q+1) 3)=some (.bool false):=cz d;have y4:a.cell? (aa (Q+1) 4)=some (sc none 0 0):=cz d;have z0:=zaF d;have g0:g.cell? (aa (Q+1) 0)=some (ii xn):=cz hbz;have R:g.cell? (aa (Q+1) 1)=some (iu xs):=cz hbz;have X:g.cell? (aa (Q+1) 2)=some (ii xt):=cz hbz;have g3:g.cell? (aa (Q+1) 3)=some (.bool xl):=cz hbz;have g4:g.cell? (aa (Q+1) 4)=some (sc xp xo.length xc):=cz hbz;have af:=hid (zA7 (x:=⟨xn,xs,xt,xl,xp,xc,xo⟩) HV.o H.o (B:=Q+1) (by have:=ac.o;omega) (by have:=N.o;omega) ae.o HJ.o fz);have ab:=q.o g (Fr.then (Fr.of_below H.o) fz fun k A=>xac A);refine tkc 8 fun K l=>?_
 go_simp
 go_wp2_with fail
 (try rw [L]);refine l.out _ _ ab (fun c=>?_)
 try simp only [Act.put,sz]
 refine tkv 9 (.bool o.isSome) c ?_;simp only [Act.put,sz];refine tkd ?_;go_wp2_with fail;exact zaB (v:=.tuple #[.agg #[ii xn,iu xs,ii xt,.bool xl,sc xp xo.length xc],.bool o.isSome]) (by simp [results,results22,go_sem,g0,R,X,g3,g4]) rfl af.o
end
end
section
variable {w' W:World} {B:Nat→Prop} {nr n0:Nat} {s:Ps} {c:Nat→Nat}
section
variable {n0:Nat} {W:World} {s:Ps} {c:Nat→Nat}
theorem zS.dirT (x:zS n0 W s c) {m:Nat} {G:Ky->Cm} (i:xI n0 W s.hd m s.nv G s.D) (g:∀k,mJ s.hd m G s.D k->c k=2) {d:Nat} {a:List zQ} {w':World} (j:cF n0 W s.hd m G s.D d a w'):∃c',zS n0 w' { s with nv:=d,D:=a } c'/\(∀k,k<W.heap.size->c' k=c k)/\Fr (fun k=>c k=2) W w':=by
 obtain ⟨e,l,h,f⟩:=j;refine ⟨_,x.turn (s':={ s with nv:=d,D:=a }) 2 g f (B':=mJ s.hd m e a) ⟨m,e,l,fun _=>xbE⟩ h (fun q n=>?_) fun k b=>(i.blk k b).2,fun k b=>wK b,f.mono g⟩;unfold uG;simp only [n,if_false];rfl
theorem zS.snpT (x:zS n0 W s c) {B:Nat->Prop} (d:uT n0 W B s.hq s.os s.floor) (g:∀k,B k->c k=4) {b:Sn} {e:Int} {w':World} (i:vA n0 W B s.hq b e w'):∃c',zS n0 w' { s with os:=b,floor:=e } c'/\(∀k,k<W.heap.size->c' k=c k)/\Fr (fun k=>c k=4) W w':=by
 obtain ⟨l,j,f,h⟩:=i;refine ⟨_,x.turn (s':={ s with os:=b,floor:=e }) 4 g f (B':=l) j h (fun q d=>?_) fun k a=>(d.blk k a).2,fun k a=>wK a,f.mono g⟩;unfold uG;simp only [d,if_false];rfl
theorem zS.trkT (x:zS n0 W s c) {B:Nat->Prop} (d:zBJ n0 W B s.ht s.tk) (f:∀k,B k->c k=3) {b:Tk} {w':World} (h:zQ7 zBJ n0 W B s.ht b w'):∃c',zS n0 w' { s with tk:=b } c'/\(∀k,k<W.heap.size->c' k=c k)/\Fr (fun k=>c k=3) W w':=by
 obtain ⟨j,i,e,g⟩:=h;refine ⟨_,x.turn (s':={ s with tk:=b }) 3 f e (B':=j) i g (fun q d=>?_) fun k a=>((zC9 n0 s.ht s.tk).blk d k a).2,fun k a=>wK a,e.mono f⟩;unfold uG;simp only [d,if_false];rfl
theorem zS.cntT (x:zS n0 W s c) (t:Int):zS n0 (W.setCell ⟨s.hs,0,none⟩ (.int .u64 t)) { s with last:=t } c/\Fr (fun k=>c k=5) W (W.setCell ⟨s.hs,0,none⟩ (.int .u64 t)):=by
 obtain ⟨d,b,g⟩:=x.cnt;have f:=zZ W s.hs 0 (iu t);refine ⟨x.step f (fun _ _=>rfl) (fun k a=>x.out k (zaU f.size a)) fun p=>?_,f.mono fun k a=>by grind⟩
 by_cases e:p=5
 ·subst e;exact xac ⟨fun k=>k=s.hs,⟨xaa W s.hs 0 _ _ _ d,b,fun _=>xbE⟩,fun k a=>by grind⟩
 refine xaf ⟨?_,fun k _ a=>by grind⟩;unfold uG;simp only [e,if_false];rfl
theorem zS.clkT (x:zS n0 W s c) (t:Int):zS n0 (W.setCell ⟨s.hc,0,none⟩ (.int .i64 t)) { s with tick:=t } c/\Fr (fun k=>c k=6) W (W.setCell ⟨s.hc,0,none⟩ (.int .i64 t)):=by
 obtain ⟨d,b,g⟩:=x.clk;have f:=zZ W s.hc 0 (ii t);refine ⟨x.step f (fun _ _=>rfl) (fun k a=>x.out k (zaU f.size a)) fun p=>?_,f.mono fun k a=>by grind⟩
 by_cases e:p=6
 ·subst e;exact xac ⟨fun k=>k=s.hc,⟨xaa W s.hc 0 _ _ _ d,b,fun _=>xbE⟩,fun k a=>by grind⟩
 refine xaf ⟨?_,fun k _ a=>by grind⟩;unfold uG;simp only [e,if_false];rfl
theorem zS.push (x:zS n0 W s c) {a d:World} (i:Below W.heap.size W a) {B:Nat->Prop} {b:Nat} (j:qP n0 a B b []) (C:∀k,B k->W.heap.size<=k) (g:Int)
  (hb2:Below a.heap.size a d) (ho:d.heap[a.heap.size]? = some (.cells #[.int .u64 s.last,.int .i64 g,.pointer (some ⟨s.h,0,none⟩),.pointer (some ⟨b,0,none⟩),.slice none 0 0,.slice none 0 0] 106 (0,0))):∃c',zS n0 d { s with xs:=s.xs++[⟨a.heap.size,s.last,g,false,⟨none,0,[],none,0,[]⟩,b,[]⟩] } c'/\∀k,k<W.heap.size->c' k=c k:=by
 have u:Bw W d:=zA i i.size hb2;have t:qP n0 d B b []:=(nC n0 b []).fr (W:=a) (B:=B) j (Fr.of_below (P:=fun _=>False) hb2) fun _ _ k=>k
 have A:=x.base;have y:=i.size;have D:a.heap.size<d.heap.size:=(gA ho).1
 let n:=s.xs.length
 let c':Nat->Nat:=fun k=>if k<W.heap.size then c k else if k=a.heap.size then 7+3 * n else @ite _ (B k) (Classical.propDecidable _) (8+3 * n) 0
 have w:∀k,B k->k<a.heap.size:=fun k f=>((nC n0 b []).blk (W:=a) (B:=B) j k f).2
 have l:∀k,k<W.heap.size->c' k=c k:=fun k f=>xae f
 have z:c' a.heap.size=7+3 * n:=by
  show (if a.heap.size<W.heap.size then _ else _)=_
  rw [xag (by omega),xae rfl]
 have v:∀k,B k->c' k=8+3 * n:=fun k f=>by grind
 refine ⟨c',x.step (P:=fun _=>False) (Fr.of_below u) l (fun k f=>?_) fun p=>?_,l⟩
 ·grind
 by_cases h7:p<7
 ·refine xaf ⟨?_,fun k _ h=>h.elim⟩;unfold uG;simp only [h7,if_true];rfl
 by_cases e:(p-7) / 3=n
 ·obtain ⟨r,m,q⟩:∃r,r<3/\p=7+3 * n+r:=⟨(p-7) % 3,Nat.mod_lt _ (by omega),by omega⟩;subst q;left;have o:(s.xs++[⟨a.heap.size,s.last,g,false,⟨none,0,[],none,0,[]⟩,b,[]⟩])[n]? = some ⟨a.heap.size,s.last,g,false,⟨none,0,[],none,0,[]⟩,b,[]⟩:=by simp [n]
  rw [zBq n0 { s with xs:=s.xs++[⟨a.heap.size,s.last,g,false,⟨none,0,[],none,0,[]⟩,b,[]⟩] } m o]
  match r,m with
  | 0,_=>exact ⟨fun k=>k=a.heap.size,⟨ho,by grind,fun _=>xbE⟩,fun k f=>by grind⟩
  | 1,_=>exact ⟨B,t,fun k f=>by grind⟩
  | 2,_=>exact ⟨fun _=>False,⟨zQR n0 d,fun k=>⟨fun h=>h.elim,by rintro (h|h|⟨_,h,_⟩)<;>cases h⟩⟩,fun k h=>h.elim⟩
 grind [uG]
theorem xF.push (f:xF nr s) (g b:Nat):xF (nr+1) { s with xs:=s.xs++[⟨g,s.last,(s.xs.length:Int)+1,false,⟨none,0,[],none,0,[]⟩,b,[]⟩],os:=s.os++[some s.last] }:=by
 have i:({ s with xs:=s.xs++[⟨g,s.last,(s.xs.length:Int)+1,false,⟨none,0,[],none,0,[]⟩,b,[]⟩],os:=s.os++[some s.last] }:Ps).sv=vG s.sv:=by
  unfold Ps.sv vG;simp only [xak];rfl
 refine ⟨?_,?_,fun x a d=>?_,fun j hj d=>?_,?_,by rw [i];exact zLh f.ok,f.v4⟩
 ·show s.nv+((s.xs++[_]).map Px.load).sum<=nr+1
  rw [xak,List.sum_append];have:=f.room
  grind [Px.load]
 ·show (s.xs++[_]).length<=nr+1
  rw [xah];have:=f.nx
  grind
 ·rcases List.mem_append.1 a with a|a
  ·have q:=f.mks x a d
   grind
  rw [List.mem_singleton.1 a];exact ⟨xaE _,xaE _,(fun k l=>by cases l),zPq⟩
 ·have hj':j<(s.xs++[_]).length:=hj
  by_cases e:j<s.xs.length
  ·have h:(s.xs++[(⟨g,s.last,(s.xs.length:Int)+1,false,⟨none,0,[],none,0,[]⟩,b,[]⟩:Px)])[j]'hj=s.xs[j]:=xaY e;have he':((s.xs++[(⟨g,s.last,(s.xs.length:Int)+1,false,⟨none,0,[],none,0,[]⟩,b,[]⟩:Px)])[j]'hj).ended=false:=d;rw [h] at he';show ((s.xs++[_])[j]'hj).id=_;rw [h];exact f.ids j e he'
  grind
 rw [i];show s.os++[some s.last]=xR (vG s.sv);rw [f.os];unfold xR vG;rw [xak];rfl
end
theorem zHr (x:zS n0 W s c) (f:xF nr s) (T:nr<=2000000000000):CC 10 #[.pointer (some ⟨s.h,0,none⟩)] W fun e w'=>∃g,e=.returned (.pointer (some ⟨g,0,none⟩))/\W.heap.size<=g/\uN n0 (nr+1) W s.h (s.xs.map Px.g++[g]) c (vG s.sv) w':=by
 obtain ⟨X,S,_,V,_,_⟩:=x.cells;obtain ⟨B,hq,hB⟩:=x.snp;have F:s.os.length=s.xs.length:=by rw [f.os,zBB];show (s.xs.map Px.tx).length=_;rw [zaM]
 have ab:=f.nx;have U:s.floor<=s.last:=f.ok.fl;have K:=hid (fP (W:=W) (g:=s.hs) (t:=s.last) x.cnt.1);have v:=hid (zJY n0 s.hq s.os s.floor s.last B W hq (by omega))
 have D:bR s.os s.floor s.last=(((s.xs.length:Int)+1,0),s.os++[some s.last]):=by
  unfold bR;rw [xag (by omega),F]
 rw [D] at v
 have O:Hid (∀a,vA n0 W B s.hq (s.os++[some s.last]) s.floor a->n0<=a.z/\∀(b d:World) (j:Nat->Prop) (i:Nat),qP n0 b j i []->Bw a b->(∀k,j k->a.z<=k)->b.alloc (.cells #[iu s.last,ii ((s.xs.length:Int)+1),jp s.h,jp i,sc none 0 0,sc none 0 0] 106)=d->W.z<=b.z/\uN n0 (nr+1) W s.h (s.xs.map Px.g++[b.z]) c (vG s.sv) d):=fun a u=>by
  obtain ⟨Z,A,J,p⟩:=x.snpT hq hB u;refine ⟨A.base,fun b d j i m l n C=>⟨zaU p.size l.size,?_⟩⟩;have E:d.heap[b.z]? = some (oc #[iu s.last,ii ((s.xs.length:Int)+1),jp s.h,jp i,sc none 0 0,sc none 0 0] 106):=by rw [<-C];exact xab b _
  have w:Bw b d:=by rw [<-C];exact zaQ
  obtain ⟨H,N,L⟩:=A.push l m n ((s.xs.length:Int)+1) w E;refine ⟨H,⟨_,N,f.push b.z i,rfl,?_,?_⟩,?_,fun k r=>(L k (zaT r p.size)).trans (J k r)⟩
  ·grind
  ·unfold Ps.sv vG;simp only [xak];rfl
  refine Fr.then (p.mono fun k r=>by omega) (Fr.of_below (P:=fun _=>False) (zA l l.size w)) fun _ h=>h.elim
 have G:Hid (∀a,n0<=a.z->CC 41 #[] a fun e w'=>∃B g,e=.returned (jp g)/\qP n0 w' B g []/\Bw a w'/\∀k,B k->a.z<=k):=fun a h=>zGo n0 a h
 have Q:c s.h=1:=x.obj.2.2;have R:Hid (∀a,vA n0 W B s.hq (s.os++[some s.last]) s.floor a->True):=fun _ _=>True.intro
 generalize vG s.sv=S' at *
 generalize s.os++[some s.last]=OS at *
 generalize s.xs.map Px.g=gs at *
 generalize (s.xs.length:Int)+1=ID at *
 generalize s.floor=FL at *
 generalize s.last=LA at *
 generalize s.h=h at *
 generalize s.hs=hs at *
 generalize s.hq=q at *
 go_enter func10,ntmps10
 go_wp2_with fail
 refine K.o.mono ?_;rintro Y a ⟨rfl,rfl⟩;go_wp2_with fail;refine v.o.mono ?_;rintro e2 b ⟨rfl,u⟩;obtain ⟨hbase,hfin⟩:=O.o b u;have M:=hid hfin;have I:=hid (G.o b hbase);go_wp2_with fail;refine I.o.mono ?_;rintro e3 d ⟨j,i,rfl,m,hb,n⟩;obtain ⟨w4,hw4⟩:=eE (d.alloc (.cells #[iu LA,ii ID,jp h,jp i,sc none 0 0,sc none 0 0] 106));have y:=hid (M.o d w4 j i m hb n hw4);go_wp2_with fail;(try rw [hw4]);go_ret;exact ⟨d.z,rfl,y.o.1,y.o.2⟩
theorem zKu (x:zS n0 W s c) (f:xF nr s) (n:Int) (b:n<=9223372036854775807):CC 38 #[.pointer (some ⟨s.h,0,none⟩),.int .i64 n] W fun e w'=>e=.returned (.int .i64 (wE s.tick n))/\uN n0 nr W s.h (s.xs.map Px.g) c { s.sv with tick:=wE s.tick n } w':=by
 refine (zIT x.stat x.clk.1 n f.ok.tick.1 f.ok.tick.2 b).mono ?_;rintro e w' ⟨rfl,d,a,rfl⟩;obtain ⟨q1,q2⟩:=(x.on a).clkT (wE s.tick n);refine ⟨rfl,c,⟨_,q1,?_,rfl,rfl,rfl⟩,Fr.then (Fr.of_below a) q2 fun k i=>xac (by omega),fun _ _=>rfl⟩;exact ⟨f.room,f.nx,f.mks,f.ids,f.os,zO7 f.ok n,f.v4⟩
theorem zGp {n0 nr:Nat} {W:World} {s:Ps} {c:Nat->Nat} (x:zS n0 W s c) (f:xF nr s) (hn:nr<=2000000000000):CC 27 #[.pointer (some ⟨s.h,0,none⟩)] W fun e w'=>e=.returned (.tuple #[.int .u64 (zP s.sv),.int .i64 (tL s.D (zP s.sv):Nat)])/\uN n0 nr W s.h (s.xs.map Px.g) c (uH s.sv) w':=by
 have aq:s.os.length=s.xs.length:=by rw [f.os,zBB];show (s.xs.map Px.tx).length=_;rw [zaM]
 have ar:=f.nx;have Y:yJ s.os s.last=zP s.sv:=by rw [f.os];rfl
 have au:s.floor<=zP s.sv:=zAs f.ok
 have ao:mN s.os s.floor (zP s.sv)=(0,zP s.sv):=by
  rw [<-Y,zH0,xag (by omega)]
 have HH:=hid (qT x.stat)
 have ab:Hid (∀a,Below W.heap.size W a->CC 73 #[uD s.hd s.hs s.hc s.hq s.ht] a fun e w'=>e=.returned (iu (zP s.sv))/\Below a.heap.size a w'):=fun a j=>by
  obtain ⟨B,i,_⟩:=(x.on j).snp;rw [<-Y];exact zC0 (x.on j).cnt.1 i (by omega)
 have ak:Hid (∀a,Below W.heap.size W a->CC 72 #[.pointer (some (aa s.hq 0)),iu (zP s.sv)] a fun e w'=>e=.returned (ii 0)/\(∃b,zS n0 w' { s with os:=s.os,floor:=zP s.sv } b/\(∀k,k<a.heap.size->b k=c k)/\Fr (fun k=>c k=4) a w')):=fun a j=>by
  obtain ⟨B,i,I⟩:=(x.on j).snp;refine (zHU n0 s.hq s.os s.floor (zP s.sv) B a i (by omega)).mono fun e w' q=>?_
  rw [ao] at q;exact ⟨q.1,(x.on j).snpT i I q.2⟩
 have ac:Hid (∀(a:World) (b:Nat->Nat),zS n0 a { s with os:=s.os,floor:=zP s.sv } b->CC 71 #[.pointer (some (aa s.hq 0))] a fun e w'=>e=.returned (iu (zP s.sv))/\w'=a):=fun a b y=>by
  obtain ⟨B,i,_⟩:=y.snp;exact zB8 n0 s.hq s.os (zP s.sv) B a i
 have aj:Hid (∀(p a:World) (b:Nat->Nat),Below W.heap.size W p->zS n0 a { s with os:=s.os,floor:=zP s.sv } b->(∀k,k<p.heap.size->b k=c k)->Fr (fun k=>c k=4) p a->CC 74 #[.pointer (some (aa s.hd 0)),iu (zP s.sv)] a fun e w'=>e=.returned (ii (tL s.D (zP s.sv):Nat))/\uN n0 nr W s.h (s.xs.map Px.g) c (uH s.sv) w'):=fun p a b j y l L=>by
  obtain ⟨m,G,o,I⟩:=y.dir;refine (zIr o (by have:=f.room;show s.nv<=_;omega) (zP s.sv)).mono fun e w' q=>⟨q.1,?_⟩
  obtain ⟨c2,r1,r2,r3⟩:=y.dirT o I q.2;refine ⟨c2,⟨_,r1,?_,rfl,rfl,rfl⟩,?_,fun k t=>(r2 k (zaT t (zaU j.size L.size))).trans (l k (zaT t j.size))⟩
  ·exact ⟨f.room,f.nx,f.mks,f.ids,f.os,zJn f.ok,f.v4⟩
  refine Fr.then (Fr.then (Fr.of_below j) (L.mono (Q:=fun k=>c k=4) fun k t=>t) fun k t=>xac (by omega)) r3 fun k t=>?_
  by_cases e:k<W.heap.size
  ·refine xac ?_;have:=l k (zaT e j.size);omega
  omega
 obtain ⟨v,C⟩:∃v:World->(Nat->Nat)->Prop,(fun a b=>zS n0 a { s with os:=s.os,floor:=zP s.sv } b)=v:=⟨_,rfl⟩;have am:Hid (∀a,Below W.heap.size W a->CC 72 #[.pointer (some (aa s.hq 0)),iu (zP s.sv)] a fun e w'=>e=.returned (ii 0)/\(∃b,v w' b/\(∀k,k<a.heap.size->b k=c k)/\Fr (fun k=>c k=4) a w')):=by rw [<-C];exact ak.out
 have al:Hid (∀(a:World) (b:Nat->Nat),v a b->CC 71 #[.pointer (some (aa s.hq 0))] a fun e w'=>e=.returned (iu (zP s.sv))/\w'=a):=by rw [<-C];exact ac.out
 have ap:Hid (∀(p a:World) (b:Nat->Nat),Below W.heap.size W p->v a b->(∀k,k<p.heap.size->b k=c k)->Fr (fun k=>c k=4) p a->CC 74 #[.pointer (some (aa s.hd 0)),iu (zP s.sv)] a fun e w'=>e=.returned (ii (tL s.D (zP s.sv):Nat))/\uN n0 nr W s.h (s.xs.map Px.g) c (uH s.sv) w'):=by rw [<-C];exact aj.out
 have HO:Hid (∀k,W.heap.size<=k->c k=0):=x.out
 generalize uH s.sv=S' at *
 generalize tL s.D (zP s.sv)=GN at *
 generalize zP s.sv=LE at *
 generalize s.xs.map Px.g=gs at *
 generalize s.h=h at *
 generalize s.hd=hd at *
 generalize s.hs=hs at *
 generalize s.hc=l at *
 generalize s.hq=i at *
 generalize s.ht=ht at *
 unfold uD at *;go_enter func27,ntmps27;go_wp2_with fail;refine HH.out.mono ?_;rintro e1 a ⟨rfl,F⟩;obtain ⟨M,o⟩:∃M,a.heap.size=M:=⟨_,rfl⟩;obtain ⟨V,hV⟩:∃V,a.alloc (.cells #[.pointer none,.pointer none,.pointer none,.pointer none,.pointer none] 97)=V:=⟨_,rfl⟩;have r:V.heap[M]? = some (.cells #[.pointer none,.pointer none,.pointer none,.pointer none,.pointer none] 97 (0,0)):=by rw [<-hV,<-o];exact xab a _
 obtain ⟨d,J⟩:∃d,((((V.setCell (aa M 0) (.pointer (some (aa hd 0)))).setCell (aa M 1) (.pointer (some (aa hs 0)))).setCell (aa M 2) (.pointer (some (aa l 0)))).setCell (aa M 3) (.pointer (some (aa i 0)))).setCell (aa M 4) (.pointer (some (aa ht 0)))=d:=⟨_,rfl⟩
 have P:d.heap[M]? = some (.cells #[.pointer (some (aa hd 0)),.pointer (some (aa hs 0)),.pointer (some (aa l 0)),.pointer (some (aa i 0)),.pointer (some (aa ht 0))] 97 (0,0)):=by
  rw [<-J];exact xaa _ M 4 _ _ _ (xaa _ M 3 _ _ _ (xaa _ M 2 _ _ _ (xaa _ M 1 _ _ _ (xaa _ M 0 _ _ _ r))))
 have N:Below W.heap.size W d:=by
  have w:Below a.heap.size a d:=by
   rw [<-J,o];have q0:Below M a V:=by rw [<-hV,<-o];exact zaQ
   exact ((((q0.setCell (by simp) _).setCell (by simp) _).setCell (by simp) _).setCell (by simp) _).setCell (by simp) _
  exact zA F F.size w
 have y0:V.cell? (aa M 0)=some (.pointer none):=cz r;have y1:V.cell? (aa M 1)=some (.pointer none):=cz r;have y2:V.cell? (aa M 2)=some (.pointer none):=cz r;have y3:V.cell? (aa M 3)=some (.pointer none):=cz r;have y4:V.cell? (aa M 4)=some (.pointer none):=cz r;have z0:=zaF r
 have E:Hid (∀w':World,w'.heap[M]? = d.heap[M]?->w'.cell? (aa M 0)=some (.pointer (some (aa hd 0)))/\w'.cell? (aa M 1)=some (.pointer (some (aa hs 0)))/\w'.cell? (aa M 2)=some (.pointer (some (aa l 0)))/\w'.cell? (aa M 3)=some (.pointer (some (aa i 0)))/\w'.cell? (aa M 4)=some (.pointer (some (aa ht 0)))):=fun w' e=>by
  have q:=e.trans P;refine ⟨?_,?_,?_,?_,?_⟩<;>rw [zaC q]<;>rfl
 have Z:=E.out d rfl;have A:Hid (W.heap.size<=M/\M<d.heap.size):=⟨by rw [<-o];exact F.size,(Array.getElem?_eq_some_iff.1 P).1⟩;have X:=hid N;have ai:=hid fun n=>ab.out (d.drewN n) (zG N n)
 go_upto_region 2 with fail
 (try rw [o]);(try rw [hV]);(try rw [J]);refine tkb (S:=fun w'=>w'.cell? (aa M 0)=some (.pointer (some (aa hd 0)))/\w'.cell? (aa M 1)=some (.pointer (some (aa hs 0)))/\w'.cell? (aa M 2)=some (.pointer (some (aa l 0)))/\w'.cell? (aa M 3)=some (.pointer (some (aa i 0)))/\w'.cell? (aa M 4)=some (.pointer (some (aa ht 0)))) Z fun hA=>?_;refine tkv3 0 1 2 (.pointer (some (aa M 3))) (.pointer (some (aa i 0))) (.agg #[.pointer (some (aa hd 0)),.pointer (some (aa hs 0)),.pointer (some (aa l 0)),.pointer (some (aa i 0)),.pointer (some (aa ht 0))]) hA ?_;simp only [Act.put,sz];refine tkc 3 fun K H=>?_
 go_simp
 refine (ai.out 1).mono ?_;rintro e2 u ⟨rfl,an⟩;have hb2':Below d.heap.size d u:=zA (zG (zaR d.heap.size d) 1) (by simp) an;have ah:=E.out u (hb2'.block M A.out.2);have R:=hid (zA X.out X.out.size hb2');have af:=hid (am.out u R.out);have O:Hid (u.heap[M]? = d.heap[M]?/\M<u.heap.size):=⟨hb2'.block M A.out.2,zaT A.out.2 hb2'.size⟩;go_wp2_with fail;refine H.out _ _ ah (fun hA=>?_)
 try simp only [Act.put,sz]
 refine tkc 4 fun K H=>?_
 go_simp
 refine af.out.mono ?_;rintro e3 z ⟨rfl,b,w,q2,T⟩;have ad:z.heap[M]? = d.heap[M]?:=(T.block M O.out.2 (by show ¬ c M=4;have:=HO.out M A.out.1;omega)).trans O.out.1;have U:=E.out z ad;have ae:=hid (al.out z b w);have ag:=hid (ap.out u z b R.out w q2 T);go_wp2_with fail;refine H.out _ _ U (fun hA=>?_)
 try simp only [Act.put,sz]
 refine tkd ?_;obtain ⟨t0,_,_,t3,_⟩:=U;go_wp2_with fail;refine ae.out.mono ?_;rintro e4 w4 ⟨rfl,rfl⟩;go_wp2_with fail;refine ag.out.mono ?_;rintro e5 w5 ⟨rfl,q⟩;have HQ:=hid q;go_wp2_with fail
 go_ret2
 exact ⟨rfl,HQ.out⟩
end
def zF0 (W:World) (ch:Ch) (e:Ending) (w':World):Prop:=∃z:Cx,e=.returned (.agg (xW z).toArray)/\vS W.heap.size w' z/\z.ch=ch/\Below W.heap.size W w'
theorem zJf {w:World} {X:Nat} (e:w.heap[X]? = some (.cells #[.string ⟨#[]⟩,.string ⟨#[]⟩,.bool false,.slice none 0 0,.bool false,.slice none 0 0] 67 (0,0))) (z:Cx) (d:World) (f:(((((w.setCell ⟨X,0,none⟩ (.string z.a)).setCell ⟨X,1,none⟩ (.string z.b)).setCell ⟨X,2,none⟩ (.bool z.wl)).setCell ⟨X,3,none⟩ (.slice z.wp z.wo.length z.wc)).setCell ⟨X,4,none⟩ (.bool z.il)).setCell ⟨X,5,none⟩ (.slice z.ip z.io.length z.ic)=d):d.heap[X]? = some (.cells #[.string z.a,.string z.b,.bool z.wl,.slice z.wp z.wo.length z.wc,.bool z.il,.slice z.ip z.io.length z.ic] 67 (0,0))/\Fr (fun b=>b=X) w d:=by
 rw [<-f];exact ⟨xaa _ X 5 _ _ _ (xaa _ X 4 _ _ _ (xaa _ X 3 _ _ _ (xaa _ X 2 _ _ _ (xaa _ X 1 _ _ _ (xaa _ X 0 _ _ _ e))))),(((((zZ w X 0 _).then (zZ _ X 1 _) fun k c=>xac c).then (zZ _ X 2 _) fun k c=>xac c).then (zZ _ X 3 _) fun k c=>xac c).then (zZ _ X 4 _) fun k c=>xac c).then (zZ _ X 5 _) fun k c=>xac c⟩
theorem zFm {n0 n:Nat} {D:List zQ} {W:World} {g:Nat} {w id:Int} {h E:Nat} {ks rs:Value} {hd hs hc hq ht:Nat} {ay:Int} {B:Nat->Prop} {L:List yI} (x:XAt W g w id h E ks rs hd hs hc hq ht ay) (hD:uP n0 hd n D W) (hw:qP n0 W B E L) (k:Ky) (u:yO k):CC 60 #[.pointer (some ⟨g,0,none⟩),.agg #[.string k.1,.string k.2]] W fun e z=>zF0 W ⟨k,((xT D w k).getD zeroV).live,((xT D w k).getD zeroV).val,xM (yH L k),jZ (yH L k)⟩ e z:=by
 obtain ⟨M,C,G,af⟩:=vD W #[tq k.1,tq k.2] #[tq ⟨#[]⟩,tq ⟨#[]⟩,.bool false,sc none 0 0,.bool false,sc none 0 0] 36 67;obtain ⟨V,hV⟩:=eE ((W.alloc (.cells #[tq k.1,tq k.2] 36)).alloc (.cells #[tq ⟨#[]⟩,tq ⟨#[]⟩,.bool false,sc none 0 0,.bool false,sc none 0 0] 67));obtain ⟨Q,hQ⟩:=eE W.heap.size;rw [hV] at M C G af;rw [hQ] at C G af;have U:=hid M;have ap:Hid (V.heap.size=Q+2):=af;have bk:Hid (W.heap.size=Q):=hQ;have ax:=hid G;have xv:=x.on M;obtain ⟨_,_,_,x3,_⟩:=xv.xc;have a0:V.cell? (aa Q 0)=some (tq k.1):=cz C;have a1:V.cell? (aa Q 1)=some (tq k.2):=cz C
 have HS:Hid (∀s,Bw V s->s.cell? (aa Q 0)=some (tq k.1)/\s.cell? (aa Q 1)=some (tq k.2)/\s.cell? (aa g 3)=some (jp E)):=fun s I =>
  ⟨(I.cell (zI a0)).trans a0,(I.cell (zI a1)).trans a1,(I.cell (zI x3)).trans x3⟩
 have aq:=hid (gO xv (hD.on M) k u);have Z:Hid (∀s,Bw V s->CC 105 #[jp E,.agg #[tq k.1,tq k.2]] s fun e z=>kL s L k e z):=fun s I=>zGh (n0:=n0) (B:=B) (by obtain ⟨m,F,O,hu⟩:=hw;exact ⟨m,F,O,(hu.on M).on I⟩) k u
 have an:Hid (∀y:Vx,y.ver=(xT D w k).getD zeroV->yZ (y.o.map Fx.fld)=true):=fun y hy=>by
  have e:y.o.map Fx.fld=((xT D w k).getD zeroV).val:=by rw [<-hy];rfl
  rw [e]
  cases T:xT D w k with
  | none=>exact pC
  | some v=>exact hD.may k v (zEu T)
 have ao:Hid (yZ (jZ (yH L k))=true):=by
  show _=_
  obtain ⟨m,F,O,hu⟩:=hw
  cases hg:yH L k with
  | none=>exact pC
  | some r =>
  cases r with
  | none=>exact pC
  | some v=>exact hu.ok.may _ (uV hg) v rfl
 obtain ⟨o,T⟩:=eE (xT D w k);rw [show atV (ofD D k) w=o from T] at aq;rw [T] at an ⊢;obtain ⟨GX,hGX⟩:=eE (yH L k);unfold kL at Z;rw [hGX] at Z ao ⊢;obtain ⟨ka,kb⟩:=k;simp only at *;go_enter func60,ntmps60;go_upto_region 1 with fail
 (try rw [hV]);(try rw [hQ]);go_wp2_with fail;refine aq.o.mono ?_;rintro e1 J ⟨y,rfl,hv,hj,ae⟩;obtain ⟨X,hX⟩:=eE J.heap.size;obtain ⟨W2,hW2⟩:=eE (J.alloc (.cells #[ii 0,iu 0,ii 0,.bool false,sc none 0 0] 42));have A:W2.heap[X]? = some (oc #[ii 0,iu 0,ii 0,.bool false,sc none 0 0] 42):=by rw [<-hW2,<-hX];exact xab J _
 have am:Bw J W2:=by rw [<-hW2];exact zaQ
 have az:V.heap.size<=X:=by rw [<-hX];exact ae.size
 have bl:=hid (an.o y hv);have be:=hid hv;obtain ⟨N,Y,R,p,i,d,b⟩:=y;simp only [zF,Vx.sl] at *;obtain ⟨W3,hW3⟩:=eE ((((((W2.setCell (aa X 0) (ii N)).setCell (aa X 1) (iu Y)).setCell (aa X 2) (ii R)).setCell (aa X 3) (.bool p)).setCell (aa X 4) (sc i b.length d)));obtain ⟨hbx,fx⟩:=vB A ⟨N,Y,R,p,i,d,b⟩ W3 hW3;have y0:W2.cell? (aa X 0)=some (ii 0):=cz A;have y1:W2.cell? (aa X 1)=some (iu 0):=cz A;have y2:W2.cell? (aa X 2)=some (ii 0):=cz A;have y3:W2.cell? (aa X 3)=some (.bool false):=cz A;have y4:W2.cell? (aa X 4)=some (sc none 0 0):=cz A;have z0:=zaF A;have av:Bw J W3:=am.trans (fx.below am.size fun k u=>by omega);have ad:Bw V W3:=zA ae ae.size av;have bi:=HS.o W3 ad;have ba:=hid fun n'=>Z.o (W3.drewN n') (zG ad n')
 have aj:Hid (zW V.heap.size W3 (sc i b.length d) b):=yC (P:=fun _=>False) hj (Fr.of_below av) fun _ _ f=>f
 have ah:=hid ad;have bj:=hid hbx;have bd:Hid (V.heap.size<=X/\X<W3.heap.size):=⟨az,(gA hbx).1⟩;go_upto_region 2 with fail
 (try rw [hX]);(try rw [hW2]);(try rw [hW3]);refine tkb (S:=fun z=>z.cell? (aa Q 0)=some (tq ka)/\z.cell? (aa Q 1)=some (tq kb)/\z.cell? (aa g 3)=some (jp E)) bi fun hA=>?_;refine tkv3 0 1 2 (jp g) (jp g) (.pointer (some (aa g 3))) hA ?_;simp only [Act.put,sz];refine tkv2 3 4 (jp E) (.agg #[tq ka,tq kb]) hA ?_;simp only [Act.put,sz];refine tkc 5 fun K hK=>?_
 go_simp
 refine (ba.o 1).mono ?_;rintro e5 a ⟨j,l,c,rfl,au,bb,bh⟩;have ab:Bw W3 a:=zA (zG (zaR W3.heap.size W3) 1) (by simp) bh;have ac:Bw V a:=zA ah.o ah.o.size ab;have ai:=HS.o a ac;have t:a.heap[Q+1]? = some (oc #[tq ⟨#[]⟩,tq ⟨#[]⟩,.bool false,sc none 0 0,.bool false,sc none 0 0] 67):=(ac.block _ (by have:=ap.o;omega)).trans ax.o;have H:a.heap[X]? = some (oc #[ii N,iu Y,ii R,.bool p,sc i b.length d] 42):=(ab.block _ bd.o.2).trans bj.o;have ar:Hid (zW V.heap.size a (sc i b.length d) b):=yC (P:=fun _=>False) aj.o (Fr.of_below ab) fun _ _ f=>f
 have bg:Hid (∀k,nF (sc i b.length d) b k->¬ nF (sc j c.length l) c k):=fun k C G=>by
  have e1:=(yL aj.o k C).2;have e2:W3.heap.size<=k:=(yL au k G).1;omega
 have al:Hid (zW V.heap.size a (sc j c.length l) c):=zM au (zaU ah.o.size (by simp));have ak:=hid bb;have bc:=hid ac;go_wp2_with fail;refine hK.out _ _ ai (fun hA=>?_)
 try simp only [Act.put,sz]
 obtain ⟨k0,k1,_⟩:=ai;refine tkv4 6 7 10 8 (.tuple #[sc j c.length l,.bool (xM GX),.bool GX.isSome]) (sc j c.length l) (sc j c.length l) (.bool (xM GX)) hA ?_;simp only [Act.put,sz];refine tkv3 11 9 12 (.bool (xM GX)) (.bool GX.isSome) (.bool GX.isSome) hA ?_;simp only [Act.put,sz];refine tkd ?_;have y0:a.cell? (aa (Q+1) 0)=some (tq ⟨#[]⟩):=cz t;have y1:a.cell? (aa (Q+1) 1)=some (tq ⟨#[]⟩):=cz t;have y2:a.cell? (aa (Q+1) 2)=some (.bool false):=cz t;have y3:a.cell? (aa (Q+1) 3)=some (sc none 0 0):=cz t;have y4:a.cell? (aa (Q+1) 4)=some (.bool false):=cz t;have y5:a.cell? (aa (Q+1) 5)=some (sc none 0 0):=cz t;have z0:=zaF t;have d0:a.cell? (aa X 0)=some (ii N):=cz H;have d1:a.cell? (aa X 1)=some (iu Y):=cz H;have d2:a.cell? (aa X 2)=some (ii R):=cz H;have d3:a.cell? (aa X 3)=some (.bool p):=cz H;have d4:a.cell? (aa X 4)=some (sc i b.length d):=cz H;obtain ⟨WZ,hWZ⟩:=eE (((((((a.setCell (aa (Q+1) 0) (tq ka)).setCell (aa (Q+1) 1) (tq kb)).setCell (aa (Q+1) 2) (.bool p)).setCell (aa (Q+1) 3) (sc i b.length d)).setCell (aa (Q+1) 4) (.bool (xM GX))).setCell (aa (Q+1) 5) (sc j c.length l)));obtain ⟨hbz,fz⟩:=zJf t ⟨ka,kb,p,i,d,b,xM GX,j,l,c⟩ WZ hWZ;have g0:WZ.cell? (aa (Q+1) 0)=some (tq ka):=cz hbz;have g1:WZ.cell? (aa (Q+1) 1)=some (tq kb):=cz hbz;have g2:WZ.cell? (aa (Q+1) 2)=some (.bool p):=cz hbz;have g3:WZ.cell? (aa (Q+1) 3)=some (sc i b.length d):=cz hbz;have g4:WZ.cell? (aa (Q+1) 4)=some (.bool (xM GX)):=cz hbz;have g5:WZ.cell? (aa (Q+1) 5)=some (sc j c.length l):=cz hbz
 have bf:Hid (zF0 W ⟨(ka,kb),(o.getD zeroV).live,(o.getD zeroV).val,xM GX,jZ GX⟩ (.returned (.agg #[tq ka,tq kb,.bool p,sc i b.length d,.bool (xM GX),sc j c.length l])) WZ):=by
  have q:Bw W a:=zA U.o U.o.size bc.o;have e1:=ap.o;have e2:=bk.o;have aw:=bl.o;have ag:=ao.o;rw [<-ak.o] at ag;refine ⟨⟨ka,kb,p,i,d,b,xM GX,j,l,c⟩,rfl,⟨zM (yC ar.o fz fun k u e=>by have:=(yL ar.o k u).1;omega) U.o.size,zM (yC al.o fz fun k u e=>by have:=(yL al.o k u).1;omega) U.o.size,(xJ aw).1,(xJ ag).1,bg.o,(xJ aw).2,(xJ ag).2⟩,?_,q.trans (fz.below q.size fun k u=>by omega)⟩;show Ch.mk (ka,kb) p (b.map Fx.fld) (xM GX) (c.map Fx.fld)=_;rw [ak.o,<-be.o];rfl
 go_wp2_with fail
 (try rw [hWZ]);exact zaB (v:=.agg #[tq ka,tq kb,.bool p,sc i b.length d,.bool (xM GX),sc j c.length l]) (by simp [results,results60,go_sem,g0,g1,g2,g3,g4,g5]) rfl bf.o
end Go.Proofs.YtkhljboeffhciaaGreat
