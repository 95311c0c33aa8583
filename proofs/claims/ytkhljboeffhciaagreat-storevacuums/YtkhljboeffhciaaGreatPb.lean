/- A part of the proof. -/
import Derived.Test.YtkhljboeffhciaaGreatPa
import Derived.Shelf.Abstract
import Derived.Shelf.RegionOpen
import Derived.OwnWalkIn
import Derived.TacticsInMore
import Derived.LoopNIn
import Derived.LoopIn
import Derived.Deep.DeepAppendWide
set_option maxHeartbeats 40000000
set_option maxRecDepth 100000
set_option linter.unusedSimpArgs false
open Go.RowKit Go.Proofs.Tryz
namespace Go.Proofs.YtkhljboeffhciaaGreat
section
variable {N n0 g:Nat} {w W:World} {u vs:Value} {o:List Fx} {P:Nat→Prop} {d:List Vx}
def nF (u:Value) (o:List Fx) (k:Nat):Prop:=u.ownBlock=some k∨∃f∈o,f.sl.ownBlock=some k
def zIq (x:Vx) (k:Nat):Prop:=nF x.sl x.o k
theorem yL (h:zW N w u o) (k:Nat) (a:nF u o k):N<=k/\k<w.heap.size:=by
 rcases a with a|⟨f,b,a⟩
 ·exact zaW h.1.1 k a
 exact zaW (h.1.2 f b) k a
theorem xA (h:zW n0 w u o):∃p a,u=.slice p o.length a:=by rcases h.1.1.2 with ⟨b,c⟩|⟨g,a,_,b,_⟩<;>grind
theorem yC (h:zW N w u o) (f:Fr P w W) (b:∀k,nF u o k->¬ P k):zW N W u o:=⟨⟨f.row h.1.1 fun k a=>b k (xac a),fun x c=>f.row (h.1.2 x c) fun k a=>b k (xaf ⟨x,c,a⟩)⟩,h.2⟩
theorem zO {B:Nat} (h:zW B w u o) {b j:Nat} (f:b<B) (v:Value):zW B (w.setCell ⟨b,j,none⟩ v) u o:=yC h (Fr.of_grown (P:=fun k=>k=b) (xS w b j v) fun k a=>by grind) fun k a e=>by
  have c:=(yL h k a).1;omega
theorem zJx (h:KV.Own n0 w vs d) (b:zW N w u o) (k:Nat) (c:vs.ownBlock=some k):¬ nF u o k:=by
 obtain ⟨m,l⟩:=zV (show w.ownsRow n0 42 5 vs d.length (KV.cells d) from h) c;intro a
 rcases a with a|⟨f,j,a⟩
 ·obtain ⟨i,e⟩:=zV b.1.1 a
  grind
 obtain ⟨i,e⟩:=zV (show w.ownsRow N 9 1 f.sl f.txt.length (f.txt.map Value.string) from b.1.2 f j) a
 grind
theorem zLO {a:List Fld} (h:yZ a=true):a.length<=16/\∀f∈a,f.1.size<=maxLen/\f.2.length<=8/\∀t∈f.2,t.size<=128:=by
 unfold yZ at h;rw [xaP,xa5,xbD] at h;refine ⟨h.1,fun f e=>?_⟩;obtain ⟨i,hi,rfl⟩:=List.mem_iff_getElem.1 e;have b:=h.2 i (by grind);have c:a.getD i default=a[i]:=by simp [List.getD,hi]
 unfold qY at b;rw [c,xaP] at b
 grind [maxLen,zHw]
theorem xJ (h:yZ (o.map Fx.fld)=true):yW o/\xO o:=by
 obtain ⟨c,e⟩:=zLO h;rw [zaM] at c;have b:∀x∈o,x.name.size<=maxLen/\x.txt.length<=8/\∀t∈x.txt,t.size<=128:=fun x a=>e x.fld (List.mem_map.2 ⟨x,a,rfl⟩)
 refine ⟨⟨by unfold maxLen;omega,fun x a=>⟨(b x a).1,?_,fun t f=>?_⟩⟩,⟨by omega,fun x a=>by have:=(b x a).2.1;omega⟩⟩<;>grind [maxLen]
theorem pC:yZ []=true:=by decide
structure vE (n0:Nat) (w:World) (g:Nat) (d:List Vx) (vs:Value):Prop where
 cell:w.cell? ⟨g,0,none⟩=some vs
 free:w.frozen? ⟨g,0,none⟩=false
 base:n0<=g
 row:KV.Own n0 w vs d
 each:∀x∈d,zW n0 w x.sl x.o/\yZ (x.o.map Fx.fld)=true
 off:∀k,(vs.ownBlock=some k∨∃x∈d,zIq x k)->k≠g
 ok:OkV (d.map Vx.ver)
 top:(yF (d.map Vx.ver)).num<=2400000000000
def zBm (g:Nat) (d:List Vx) (vs:Value) (k:Nat):Prop:=k=g∨vs.ownBlock=some k∨∃x∈d,zIq x k
theorem vE.blk (h:vE n0 w g d vs) (k:Nat) (a:zBm g d vs k):n0<=k/\k<w.heap.size:=by
 rcases a with rfl|a|⟨x,b,a⟩
 ·exact ⟨h.base,zI h.cell⟩
 ·exact zaW (show w.ownsRow n0 42 5 vs d.length (KV.cells d) from h.row) k a
 exact yL (h.each x b).1 k a
theorem vE.fr (h:vE n0 w g d vs) (f:Fr P w W) (a:∀k,zBm g d vs k->¬ P k):vE n0 W g d vs:=by
 have e:W.heap[g]? = w.heap[g]?:=f.block g (zI h.cell) (a g (xac rfl));refine ⟨f.cell h.cell (a g (xac rfl)),?_,h.base,f.row (show w.ownsRow n0 42 5 vs d.length (KV.cells d) from h.row) fun k b=>a k (xaf (xac b)),fun x c=>⟨yC (h.each x c).1 f fun k b=>a k (xaf (xaf ⟨x,c,b⟩)),(h.each x c).2⟩,h.off,h.ok,h.top⟩;have:=h.free
 grind [World.frozen?]
theorem vE.on (h:vE n0 w g d vs) (a:Below w.heap.size w W):vE n0 W g d vs:=h.fr (P:=fun _=>False) (Fr.of_below a) fun _ _ b=>b
theorem zEg {l:List Vr} (h:OkV l):(l.length:Int)<=(yF l).num:=by
 rcases xbg l.length with e|e
 ·obtain rfl:=List.length_eq_zero_iff.1 e;exact xbo _
 rw [tP e,gR h (l.length-1) (by omega)];have:=(h.first _ (zaN e)).1;omega
theorem vE.few (h:vE n0 w g d vs):d.length<=2400000000000:=by
 have b:=zEg h.ok;have a:=h.top
 grind
theorem vE.fits (h:vE n0 w g d vs):∀x∈d,x.at w/\yW x.o/\xO x.o:=fun x b=>by
 obtain ⟨c,e⟩:=h.each x b;have a:=xJ e;exact ⟨c.1.is,a.1,a.2⟩
end
section
variable {o d:List Fx} {i g c:Nat} {w W:World} {u:Value}
structure cZ (w:World) (u:Value) (d:List Fx) (i:Nat) (o:List Fx) (W:World):Prop where
 len:o.length=i
 row:W.ownsRow w.heap.size 82 2 u d.length (yT (o++d.drop i))
 txt:∀x∈o,tR w.heap.size W x.sl x.txt
 apart:zGQ o
 fld:o.map Fx.fld=(d.take i).map Fx.fld
 bel:Below w.heap.size w W
theorem zKL {α:Type} {o d:List α} (a:o.length=i) (hi:i<d.length) (x:α):(o++d.drop i).set i x=(o++[x])++d.drop (i+1):=by
 subst a;rw [List.drop_eq_getElem_cons hi,List.set_append_right _ _ (zaL _),Nat.sub_self,xbP];simp
theorem zFB {α:Type} {o d:List α} (a:o.length=i) (hi:i<d.length):(o++d.drop i)[i]'(by grind)=d[i]:=by grind
theorem cZ.start (h:W.ownsRow w.heap.size 82 2 u d.length (yT d)) (a:Below w.heap.size w W):cZ w u d 0 [] W:=⟨rfl,by simpa using h,fun x b=>by simp at b,xan,by simp,a⟩
theorem cZ.cells (h:cZ w (.slice (some ⟨g,0,none⟩) d.length c) d i o W) (hi:i<d.length):∀a,Below W.heap.size W a ->
  a.cell? ⟨g,i * 2+1,none⟩=some (d[i]).sl/\a.frozen? ⟨g,i * 2+1,none⟩=false:=fun a f=>by
 have e:=own_on h.row f;have j:(o++d.drop i).length=d.length:=by rw [xah,xaw,h.len];omega
 have b:=(mS (o++d.drop i) i (by omega)).2;rw [zFB h.len hi] at b;exact ⟨by rw [e.cellAt _ (by omega)];exact b,e.frozenAt _⟩
theorem cZ.next {f:World} (h:cZ w (.slice (some ⟨g,0,none⟩) d.length c) d i o W) (hi:i<d.length) {a:Option Addr} {b:Nat} (l:Below W.heap.size W f) (r:tR W.heap.size f (.slice a (d[i]).txt.length b) (d[i]).txt):cZ w (.slice (some ⟨g,0,none⟩) d.length c) d (i+1) (o++[⟨(d[i]).name,a,b,(d[i]).txt⟩]) (f.setCell ⟨g,i * 2+1,none⟩ (.slice a (d[i]).txt.length b)):=by
 have m:=own_on h.row l;have A:=(zaW h.row g rfl).1;have p:w.z<=W.z:=h.bel.size;have D:(o++d.drop i).length=d.length:=by rw [xah,xaw,h.len];omega
 have B:=zKL h.len hi (⟨(d[i]).name,a,b,(d[i]).txt⟩:Fx);have n:f.grownBy (f.setCell (aa g (i * 2+1)) (sc a (d[i]).txt.length b)) (Value.slice (some (aa g 0)) d.length c).ownBlock:=xS f g _ _;refine ⟨by grind,?_,fun x j=>?_,?_,?_,?_⟩
 ·have v:=(m.stored (i * 2+1) (sc a (d[i]).txt.length b)).1;rw [<-B,zIa _ _ (by omega)]
  have t:(yT (o++d.drop i)).set (i * 2) (tq (⟨(d[i]).name,a,b,(d[i]).txt⟩:Fx).name)=yT (o++d.drop i):=by
   apply xaU
   intro q;rw [xbS]
   split
   ·rename_i hq
    subst hq;rw [xae (by rw [bI];omega)]
    grind [mS]
   rfl
  rw [t];exact v
 ·rcases List.mem_append.1 j with j|j
  ·exact mA (tR.on (h.txt x j) l) m (by decide) n
  rw [xaH] at j;subst j;exact mA (show f.ownsRow w.z 9 1 (sc a (d[i]).txt.length b) (d[i]).txt.length ((d[i]).txt.map Value.string) from own_weak r p) m (by decide) n
 ·refine zCY h.apart fun y s=>?_
  rcases hk:y.sl.ownBlock with _|k
  ·grind
  right;have C:=(zaW (h.txt y s) k hk).2;intro e;have E:=(zaW r k (by rw [e];rfl)).1;omega
 ·rw [xak,h.fld,zaK hi,xak];rfl
 exact (zA h.bel p l).setCell A _
theorem cZ.done (h:cZ w u d i o W) (hi:¬ i<d.length):zW w.heap.size W u o/\o.map Fx.fld=d.map Fx.fld:=by
 have a:=h.fld;rw [xaj (by omega)] at a;have e:o.length=d.length:=by simpa using xad List.length a
 have b:=h.row;rw [List.drop_eq_nil_of_le (by omega),xbL,<-e] at b;exact ⟨⟨⟨b,h.txt⟩,h.apart⟩,a⟩
theorem bC (v:Value) (d:List Fx) (w:World) (n:wH w v d) (O:yW d) (A:xO d):CC 215 #[v] w fun e B=>∃u o,e=.returned u/\zW w.heap.size B u o/\o.map Fx.fld=d.map Fx.fld/\Below w.heap.size w B:=by
 have E:=hid (zDS v d w n A.1);have D:=hid n.at_all;have I:=hid A.2;have G:=O.1;unfold maxLen at G;go_enter func215,ntmps215;go_wp2_with fail;refine E.o.mono ?_;rintro e T ⟨u,rfl,q,J⟩;have L:=hid (cZ.start q J)
 obtain ⟨p,j,rfl,C⟩:∃p j,u=sc p d.length j/\(0<d.length->∃g,p=some (aa g 0)):=by
  rcases q.2 with ⟨b,m⟩|⟨g,j,_,b,_⟩
  ·exact ⟨none,0,by rw [m];exact b,fun h=>by omega⟩
  exact ⟨_,_,b,fun _=>⟨g,rfl⟩⟩
 have M:=hid C;go_wp2_with fail
 go_loopg [9] d.length (fun gg H wr=>∃(i:Nat) (o:List Fx),H=ii i/\i<=d.length/\d.length-i<=gg/\Hid (cZ w (sc p d.length j) d i o wr))
 case atStart=>exact ⟨0,[],rfl,by omega,by omega,L.o⟩
 obtain ⟨i,o,rfl,hi,S,a⟩:=hrel
 by_cases hlt:i<d.length
 ·have N:(i:Int)<(d.length:Int):=by omega
  have P:(0:Int)<=i:=by omega
  obtain ⟨g,rfl⟩:=M.o (by omega);obtain ⟨c0,f0⟩:=a.o.cells hlt wr (zaR _ _);have y:=hid (a.o.cells hlt);have s:=hid (mW (d[i]).p (d[i]).cap (d[i]).txt wr ((D.o _ (zaN hlt)).kept a.o.bel) (I.o _ (zaN hlt)));have r:Hid (∀l f k,Bw wr l->tR wr.z l (sc f (d[i]).txt.length k) (d[i]).txt->cZ w (sc (some (aa g 0)) d.length j) d (i+1) (o++[⟨(d[i]).name,f,k,(d[i]).txt⟩]) (l.setCell (aa g (i * 2+1)) (sc f (d[i]).txt.length k))):=fun l f k b m=>a.o.next hlt b m
  generalize d[i]=x at *
  obtain ⟨Q,f,k,R⟩:=x;simp only [Fx.sl] at c0 y s r;go_wp2_with fail;refine s.o.mono ?_;rintro e w5 ⟨sv,rfl,hot5,hb5⟩;obtain ⟨p6,c6,rfl⟩:=pH hot5;obtain ⟨q0,q1⟩:=y.o w5 hb5;have K:=hid (r.o w5 p6 c6 hb5 hot5);go_wp2_with fail;go_roundg (d.length-(i+1))
  case measure=>omega
  exact ⟨i+1,_,by go_num,by omega,by omega,K.o⟩
 have N:¬ (i:Int)<(d.length:Int):=by omega
 have t:=hid (a.o.done hlt);have F:=hid a.o.bel;go_wp2_with fail;go_ret;exact ⟨_,rfl,o,t.o.1,t.o.2,F.o⟩
end
section
variable {w W:World} {d o:List Vx} {u:Value} {g c i:Nat}
theorem zQp {α:Type} {K:zC α} {b e:Nat} {d:List α} (h:K.At w b e d):∀j u,(K.cells d)[j]? = some u->w.cell? ⟨b,e+j,none⟩=some u:=by
 intro j u hj;obtain ⟨a,r⟩:∃a,a=(some (aa b e):Option Addr):=⟨_,rfl⟩;have f:0<K.k:=K.pos;have l:=(gL hj).1;rw [K.cells_len] at l;have m:j / K.k<d.length:=by rw [xbY f];exact l
 have p:=Nat.mod_lt j f;have q:j / K.k * K.k+j % K.k=j:=by rw [Nat.mul_comm];exact Nat.div_add_mod j K.k
 have n:=K.cells_get d (j / K.k) m (j % K.k) p;rw [q,hj] at n;have:=h (j / K.k) m (j % K.k) u n.symm
 grind
theorem zCi (v:Value) (p:List Vx) (w:World) (x:KV.Is w v p) (hs:p.length * 56<=140737488355328):CC 173 #[v] w fun e r=>∃u,e=.returned u/\KV.Own w.heap.size r u p/\Below w.heap.size w r:=by
 obtain ⟨E,hi,F,A,B⟩:=xaL Tryz.infoVer;obtain ⟨q,cap,rfl,hd⟩:=x;have K:∀(w:World) (a:Option Addr) (n c f k:Nat),(binOp .eql 44 (sc a n c) (sc none f k)).run prog w=.ok (.bool a.isNone) w:=fun w a n c f k=>xbv w _ _ a n c f k underlying44
 have s:=hid hd
 cases q with
 | none =>
  have y:p=[]:=by
   rcases s.o with h|⟨b,t,h,_⟩
   ·exact h
   cases h
  subst y;go_enter func173,ntmps173;go_wp2_with fail;go_ret;exact ⟨_,rfl,KV.own_nil _ _,zaR _ _⟩
 | some a =>
 have H:∀j u,(KV.cells p)[j]? = some u->(w.alloc (.cells #[] 42)).cell? (a.add j)=some u:=by
  rcases s.o with h|⟨b,t,h,M⟩
  ·grind [zC.cells]
  grind [addr_add,zQp,World.cell?_alloc_lt,zI]
 have G:=hid H;go_enter func173,ntmps173;go_wp2_with (at_builtin;refine xbj _ rfl _ _ 44 rfl w.z 42 E (.agg #[ii 0,iu 0,ii 0,.bool false,sc none 0 0]) 5 56 underlying44 hi F A B rfl (by decide) _ _ _ rfl (xbO w #[] 0 (zaL _) (xaE _) (by simp)) a p.length cap (KV.cells p) rfl ?c0 ?c1 ?c2 ?c3 ?c4 ?c5 ?_)
 case c0=>exact KV.cells_len p
 case c1=>exact G.o
 case c2=>exact KV.cells_ones p
 case c3=>unfold maxLen;omega
 case c4=>omega
 case c5=>simp
 intro m l L I J;have C:Bw w l:=((zaR _ w).alloc (zaL _) _).grown I (by simp) (by grind [Value.ownBlock]);have D:Hid (KV.Own w.z l m p):=hid (by show l.ownsRow w.z 42 5 m p.length (KV.cells p);omega);go_wp2_with fail;go_ret;exact ⟨_,rfl,D.o,C⟩
theorem zB3 (x:Vx) (l:List Vx):KV.cells (x::l)=.int .i64 x.num::.int .u64 x.stamp::.int .i64 x.tick::.bool x.live::x.sl::KV.cells l:=rfl
theorem zCt:∀(l:List Vx) (i:Nat) (h:i<l.length) (p:Option Addr) (a:Nat) (o:List Fx),
  KV.cells (l.set i ⟨(l[i]).num,(l[i]).stamp,(l[i]).tick,(l[i]).live,p,a,o⟩)=(KV.cells l).set (i * 5+4) (.slice p o.length a)
 | [],i,h,_,_,_=>by simp at h
 | x::l,0,_,p,a,o=>by simp only [xbP,List.getElem_cons_zero,zB3];rfl
 | x::l,i+1,h,p,a,o=>by
  have h':i<l.length:=by simpa using h
  rw [List.set_cons_succ];simp only [List.getElem_cons_succ,zB3];rw [zCt l i h' p a o,show (i+1) * 5+4=i * 5+4+1+1+1+1+1 by omega];rfl
def zF3 (o:List Vx):Prop:=o.Pairwise fun x y=>∀k,zIq x k->¬ zIq y k
structure zBo (w:World) (u:Value) (d:List Vx) (i:Nat) (o:List Vx) (W:World):Prop where
 len:o.length=i
 row:W.ownsRow w.heap.size 42 5 u d.length (KV.cells (o++d.drop i))
 val:∀x∈o,zW w.heap.size W x.sl x.o
 apart:zF3 o
 ver:o.map Vx.ver=(d.take i).map Vx.ver
 bel:Below w.heap.size w W
theorem zBo.start (h:KV.Own w.heap.size W u d) (a:Below w.heap.size w W):zBo w u d 0 [] W:=⟨rfl,by
  have h':W.ownsRow w.z 42 5 u d.length (KV.cells d):=h
  grind,fun x b=>by simp at b,xan,by simp,a⟩
theorem zBo.cells (h:zBo w (.slice (some ⟨g,0,none⟩) d.length c) d i o W) (hi:i<d.length):∀a,Below W.heap.size W a ->
  a.cell? ⟨g,i * 5+4,none⟩=some (d[i]).sl/\a.frozen? ⟨g,i * 5+4,none⟩=false:=fun a f=>by
 have e:=own_on h.row f;have j:(o++d.drop i).length=d.length:=by rw [xah,xaw,h.len];omega
 have b:=KV.cells_get (o++d.drop i) i (by omega) 4 (by decide);rw [zFB h.len hi] at b;exact ⟨by rw [e.cellAt _ (by omega)];exact b,e.frozenAt _⟩
theorem zBo.next {f:World} (h:zBo w (.slice (some ⟨g,0,none⟩) d.length c) d i o W) (hi:i<d.length) {m:Option Addr} {n:Nat} {j:List Fx} (r:Below W.heap.size W f)
  (ht:zW W.heap.size f (.slice m j.length n) j) (hm:j.map Fx.fld=(d[i]).o.map Fx.fld):zBo w (.slice (some ⟨g,0,none⟩) d.length c) d (i+1) (o++[⟨(d[i]).num,(d[i]).stamp,(d[i]).tick,(d[i]).live,m,n,j⟩]) (f.setCell ⟨g,i * 5+4,none⟩ (.slice m j.length n)):=by
 have A:=own_on h.row r;have C:=(zaW h.row g rfl).1;have y:w.z<=W.z:=h.bel.size;have B:(o++d.drop i).length=d.length:=by rw [xah,xaw,h.len];omega
 have I:=zKL h.len hi (⟨(d[i]).num,(d[i]).stamp,(d[i]).tick,(d[i]).live,m,n,j⟩:Vx);have t:Fr (fun k=>k=g) f (f.setCell (aa g (i * 5+4)) (sc m j.length n)):=Fr.of_grown (xS f g _ _) fun k p=>by grind
 have v:∀{N:Nat} {u:Value} {q:List Fx},zW N f u q->∀k,nF u q k->¬ k=g:=fun hj k p e=>by
  subst e
  have hr5':KV.Own w.z f (sc (some (aa k 0)) d.length c) (o++d.drop i):=by
   show f.ownsRow _ _ _ _ (o++d.drop i).length _
   rw [B];exact A
  exact zJx hr5' hj k rfl p
 refine ⟨by grind,?_,fun x l=>?_,?_,?_,?_⟩
 ·have H:=(A.stored (i * 5+4) (sc m j.length n)).1
  grind [zCt,zFB]
 ·rcases List.mem_append.1 l with l|l
  ·exact yC ((h.val x l).on r) t (v ((h.val x l).on r))
  rw [xaH] at l;subst l;exact yC (zM ht y) t (v ht)
 ·unfold zF3;rw [xbC];refine ⟨h.apart,xaF _ _,fun a E b s k p D=>?_⟩;rw [xaH] at s;subst s;have F:=(yL (h.val a E) k p).2;have G:=(yL ht k D).1;omega
 ·rw [xak,h.ver,zaK hi,xak]
  grind [Vx.ver]
 exact (zA h.bel y r).setCell C _
def vX (w:World) (l:List Vr) (e:Ending) (w':World):Prop:=∃u o,e=.returned u/\KV.Own w.heap.size w' u o/\(∀x∈o,zW w.heap.size w' x.sl x.o)/\zF3 o/\o.map Vx.ver=l/\Below w.heap.size w w'
theorem zBo.done (h:zBo w u d i o W) (hi:¬ i<d.length):vX w (d.map Vx.ver) (.returned u) W:=by
 have a:=h.ver;rw [xaj (by omega)] at a;have e:o.length=d.length:=by simpa using xad List.length a
 have b:=h.row;rw [List.drop_eq_nil_of_le (by omega),xbL,<-e] at b;exact ⟨u,o,rfl,b,h.val,h.apart,a,h.bel⟩
theorem zB5 (v:Value) (d:List Vx) (w:World) (B:KV.Is w v d) (I:∀x∈d,x.at w/\yW x.o/\xO x.o) (Q:d.length<=2400000000000):CC 245 #[v] w fun e K=>vX w (d.map Vx.ver) e K:=by
 have C:=hid (zCi v d w B (by omega));have y:=hid I;go_enter func245,ntmps245;go_wp2_with fail;refine C.o.mono ?_;rintro e X ⟨u,rfl,n,G⟩;have S:=hid (zBo.start n G)
 obtain ⟨p,b,rfl,A⟩:∃p b,u=sc p d.length b/\(0<d.length->∃g,p=some (aa g 0)):=by
  rcases n.2 with ⟨m,s⟩|⟨g,b,_,m,_⟩
  ·grind
  grind
 have H:=hid A;go_wp2_with fail
 go_loopg [9] d.length (fun gg F wr=>∃(i:Nat) (o:List Vx),F=ii i/\i<=d.length/\d.length-i<=gg/\Hid (zBo w (sc p d.length b) d i o wr))
 case atStart=>grind
 obtain ⟨i,o,rfl,hi,V,f⟩:=hrel
 by_cases hlt:i<d.length
 ·have J:(i:Int)<(d.length:Int):=by omega
  have L:(0:Int)<=i:=by omega
  obtain ⟨g,rfl⟩:=H.o (by omega);obtain ⟨c0,f0⟩:=f.o.cells hlt wr (zaR _ _);have t:=hid (f.o.cells hlt);have l:=y.o _ (zaN hlt);have r:=hid (bC (d[i]).sl (d[i]).o wr (l.1.kept f.o.bel) l.2.1 l.2.2);have q:Hid (∀j h k a,Bw wr j->zW wr.z j (sc h a.length k) a->a.map Fx.fld=(d[i]).o.map Fx.fld->zBo w (sc (some (aa g 0)) d.length b) d (i+1) (o++[⟨(d[i]).num,(d[i]).stamp,(d[i]).tick,(d[i]).live,h,k,a⟩]) (j.setCell (aa g (i * 5+4)) (sc h a.length k))):=fun j h k a m s D=>f.o.next hlt m s D
  generalize d[i]=x at *
  obtain ⟨U,M,O,T,N,P,Y⟩:=x;simp only [Vx.sl] at c0 t r q;go_wp2_with fail;refine r.o.mono ?_;rintro e w5 ⟨sv,a,rfl,hot5,hm5,hb5⟩;obtain ⟨p6,c6,rfl⟩:=xA hot5;obtain ⟨q0,q1⟩:=t.o w5 hb5;have R:=hid (q.o w5 p6 c6 a hb5 hot5 hm5);go_wp2_with fail;go_roundg (d.length-(i+1))
  case measure=>omega
  grind
 have J:¬ (i:Int)<(d.length:Int):=by omega
 have E:=hid (f.o.done hlt);go_wp2_with fail;go_ret;exact E.o
def vZ (w:World) (o:Option Vr) (e:Ending) (w':World):Prop:=∃x:Vx,e=.returned (.tuple #[.agg (zF x).toArray,.bool o.isSome])/\x.ver=o.getD zeroV/\zW w.heap.size w' x.sl x.o/\Below w.heap.size w w'
def jX (l:List Vr) (place:Int):Option Vr:=if 0<=place then l[place.toNat]? else none
theorem bU:yB.ver=zeroV:=rfl
theorem zAa (v:Value) (d:List Vx) (place:Int) (w:World) (hv:KV.Is w v d) (ha:∀x∈d,x.at w/\yW x.o/\xO x.o) (_hl:d.length<=2400000000000):CC 171 #[v,.int .i64 place] w fun e w'=>vZ w (jX (d.map Vx.ver) place) e w':=by
 obtain ⟨p,cap,rfl,hd⟩:=hv;have HD:=hid hd;have HA:=hid ha;have HBX:Hid (Bw w (w.alloc (.cells #[ii 0,iu 0,ii 0,.bool false,sc none 0 0] 42))):=zaQ
 by_cases h1:place<0
 ·have HG:Hid (jX (d.map Vx.ver) place=none):=by show _=_;unfold jX;rw [xag (by omega)]
  go_enter func171,ntmps171
  go_wp2_with fail
  rw [HG.o]
  exact zaB (v:=.tuple #[.agg #[ii 0,iu 0,ii 0,.bool false,sc none 0 0],.bool false]) (by simp [results,results171,go_sem]) rfl
   ⟨yB,rfl,bU,vO _ _,by
    first
    | exact zaQ
    | exact (((((HBX.o.setCell (zaL _) _).setCell (zaL _) _).setCell (zaL _) _).setCell (zaL _) _).setCell (zaL _) _)⟩
 by_cases h2:(d.length:Int)<=place
 ·have HG:Hid (jX (d.map Vx.ver) place=none):=by
   show _=_
   unfold jX;rw [xae (by omega),xaz (by grind)]
  go_enter func171,ntmps171
  go_wp2_with fail
  rw [HG.o]
  exact zaB (v:=.tuple #[.agg #[ii 0,iu 0,ii 0,.bool false,sc none 0 0],.bool false]) (by simp [results,results171,go_sem]) rfl
   ⟨yB,rfl,bU,vO _ _,by
    first
    | exact zaQ
    | exact (((((HBX.o.setCell (zaL _) _).setCell (zaL _) _).setCell (zaL _) _).setCell (zaL _) _).setCell (zaL _) _)⟩
 obtain ⟨k,rfl⟩:∃k:Nat,place=(k:Int):=⟨place.toNat,by omega⟩;have hk:k<d.length:=by omega
 have hk0:(0:Int)<=(k:Int):=by omega
 have hkl:(k:Int)<(d.length:Int):=by omega
 obtain ⟨b1,o1,rfl,k1⟩:∃b off,p=some (aa b off)/\KV.At w b off d:=by
  rcases HD.o with h|h
  ·grind
  exact h
 obtain ⟨y0,y1,y2,y3,y4⟩:=zBd (zC.at_kept k1 HBX.o) k hk
 have HG:Hid (jX (d.map Vx.ver) (k:Int)=some (d[k]).ver):=by
  show _=_
  unfold jX;rw [xae hk0,Int.toNat_natCast,xby,xai hk];rfl
 have hax:=HA.o _ (zaN hk)
 generalize d[k]=x at *
 have HB2:Hid (Bw w ((w.alloc (.cells #[ii 0,iu 0,ii 0,.bool false,sc none 0 0] 42)).alloc (.cells (zF x).toArray 42))):=HBX.o.alloc (by simp) _;have HCP:=hid (bC x.sl x.o _ (hax.1.kept HB2.o) hax.2.1 hax.2.2);obtain ⟨xn,xs,xt,xl,xp,xc,xo⟩:=x;simp only [Vx.sl,zF] at y0 y1 y2 y3 y4 HCP HB2;rw [HG.o];go_enter func171,ntmps171;go_wp2_with fail;refine HCP.o.mono ?_;rintro e w1 ⟨u,o,rfl,hJ,hm,hq⟩;obtain ⟨p5,c5,rfl⟩:=xA hJ;obtain ⟨N,hN⟩:=eE w.heap.size
 have z1:w1.heap[N]? = some (oc #[ii 0,iu 0,ii 0,.bool false,sc none 0 0] 42):=by
  rw [hq.block N (by simp;omega),heap_alloc_old _ _ (by rw [<-hN];simp),<-hN];exact xab w _
 have z2:w1.heap[N+1]? = some (oc #[ii xn,iu xs,ii xt,.bool xl,sc xp xo.length xc] 42):=by
  rw [hq.block (N+1) (by simp;omega)];have:=xab (w.alloc (.cells #[ii 0,iu 0,ii 0,.bool false,sc none 0 0] 42)) (.cells #[ii xn,iu xs,ii xt,.bool xl,sc xp xo.length xc] 42);rw [<-hN]
  simpa using this
 have q10:w1.cell? (aa N 0)=some (ii 0):=cz z1;have q11:w1.cell? (aa N 1)=some (iu 0):=cz z1;have q12:w1.cell? (aa N 2)=some (ii 0):=cz z1;have q13:w1.cell? (aa N 3)=some (.bool false):=cz z1;have q14:w1.cell? (aa N 4)=some (sc none 0 0):=cz z1;have q20:w1.cell? (aa (N+1) 0)=some (ii xn):=cz z2;have q21:w1.cell? (aa (N+1) 1)=some (iu xs):=cz z2;have q22:w1.cell? (aa (N+1) 2)=some (ii xt):=cz z2;have q23:w1.cell? (aa (N+1) 3)=some (.bool xl):=cz z2;have q24:w1.cell? (aa (N+1) 4)=some (sc xp xo.length xc):=cz z2;have fz:∀(B j:Nat) (cs:Array Value),w1.heap[B]? = some (oc cs 42)->w1.frozen? (aa B j)=false:=fun B j cs h=>by grind [World.frozen?]
 have r10:=fz N 0 _ z1;have r11:=fz N 1 _ z1;have r12:=fz N 2 _ z1;have r13:=fz N 3 _ z1;have r14:=fz N 4 _ z1;have r24:=fz (N+1) 4 _ z2;have HJ:=hid (zM hJ (M:=N+2) (by simp;omega));have HM:=hid hm;have HZ1:=hid z1;have HZ2:=hid z2;have hNs:N<=w1.heap.size:=by have:=hq.size;simp at this;omega
 have HBQ:Hid (Below N w w1):=by rw [<-hN] at *;exact zA HB2.o HB2.o.size hq
 simp only [hN];go_wp2_with fail
 exact zaB (v:=.tuple #[.agg #[ii xn,iu xs,ii xt,.bool xl,sc p5 o.length c5],.bool true]) (by simp [results,results171,go_sem,q10,q11,q12,q13,q14]) rfl
  ⟨⟨xn,xs,xt,xl,p5,c5,o⟩,rfl,by show Vr.mk _ _ _ _ _=Vr.mk _ _ _ _ _;rw [HM.o],by
   rw [hN];refine zM (N:=N+2) ?_ (by omega);exact zO (zO (zO (zO (zO (zO HJ.o (by omega) _) (by omega) _) (by omega) _) (by omega) _) (by omega) _) (by omega) _,by
   rw [hN];exact (((((HBQ.o.setCell (xax _) _).setCell (zaL _) _).setCell (zaL _) _).setCell (zaL _) _).setCell (zaL _) _).setCell (zaL _) _⟩
end
theorem zAT (x:Vx) (t:Int) (w:World):CC 223 #[.agg (zF x).toArray,.int .u64 t] w fun e c=>e=.returned (.int .i64 (if x.stamp<=t then -1 else 1))/\Below w.heap.size w c:=by
 have a:Hid (Bw w (w.alloc (.cells (zF x).toArray 42))):=zaQ;obtain ⟨f,b,j,d,g,k,i⟩:=x;simp only [zF,Vx.sl] at a ⊢
 by_cases h:b<=t
 ·rw [xae h];go_enter func223,ntmps223;go_wp2_with fail;go_ret;exact ⟨rfl,a.o⟩
 rw [xag h];go_enter func223,ntmps223;go_wp2_with fail;go_ret;exact ⟨rfl,a.o⟩
theorem zBl:∀args w,(callFunc 223 args).run prog w=.ok (.enter 223 args) w:=xaR func223 (by kernel_rfl) rfl
theorem zRR {d:List Vx} (c:pR (d.map Vx.ver)) (t:Int) (k:Nat) (b:k<d.length):((d[k]).stamp<=t↔k<wG (d.map Vx.ver) t):=by
 have hk':k<(d.map Vx.ver).length:=by rw [zaM];exact b
 have e:((d.map Vx.ver)[k]).stamp=(d[k]).stamp:=by rw [xa4];rfl
 constructor
 ·intro h
  rcases xbd k (wG (d.map Vx.ver) t) with a|a
  ·exact a
  have:=sV _ c t k hk' a;omega
 intro h;have:=tF _ t k hk' h;omega
theorem zQS (v:Value) (d:List Vx) (t:Int) (w:World) (hv:KV.Is w v d) (hr:pR (d.map Vx.ver)) (hl:d.length<=2400000000000):CC 222 #[v,.int .u64 t,.func (.func 223) #[] #[]] w fun e w'=>(∃b,e=.returned (.tuple #[.int .i64 (wG (d.map Vx.ver) t:Nat),.bool b])/\b=false)/\Below w.heap.size w w':=by
 have eg:=zBl;obtain ⟨p,cap,rfl,hd⟩:=hv;have HD:=hid hd;have HR:=hid (zRR hr t);have hcl:=wP (d.map Vx.ver) t;rw [zaM] at hcl;obtain ⟨c,hc⟩:=eE (wG (d.map Vx.ver) t);rw [hc] at HR hcl ⊢;go_enter func222,ntmps222;go_wp2_with fail
 go_loopg [9,10] d.length (fun kx s9 s10 wr=>∃lo hi:Nat,s9=ii lo/\s10=ii hi/\lo<=c/\c<=hi/\hi<=d.length/\hi-lo<=kx/\Hid (Bw w wr))
 case atStart=>exact ⟨0,d.length,rfl,rfl,xaE _,hcl,zaL _,by omega,zaR _ _⟩
 obtain ⟨lo,hi,rfl,rfl,hlc,hch,hhd,hg,HB⟩:=hrel
 by_cases hlt:lo<hi
 ·have hk:(lo+hi) / 2<d.length:=by omega
  obtain ⟨b1,o1,rfl,k1⟩:∃b off,p=some (aa b off)/\KV.At w b off d:=by
   rcases HD.o with h|h
   ·rw [h] at hk;simp at hk
   exact h
  obtain ⟨y0,y1,y2,y3,y4⟩:=zBd (zC.at_kept k1 HB.o) ((lo+hi) / 2) hk;have hiff:=HR.o ((lo+hi) / 2) hk;have hsz:=HB.o.size
  generalize d[(lo+hi) / 2]=x at *
  have hcall:=zAT x t wr;obtain ⟨xn,xs,xt,xl,xp,xc,xo⟩:=x;simp only [Vx.sl,zF] at y0 y1 y2 y3 y4 hiff hcall;have HCALL:=hid hcall
  by_cases hs:xs<=t
  ·rw [xae hs] at HCALL;have hkc:=hiff.1 hs;go_wp2_with (go_at_fn 223;refine HCALL.o.mono ?_;rintro e w1 ⟨rfl,hq⟩);have HB1:=hid (zA HB.o hsz hq);go_roundg (hi-((lo+hi) / 2+1))
   case measure=>omega
   exact ⟨(lo+hi) / 2+1,hi,by rw [show ((lo:Int)+(hi:Int)) / 2+1=(((lo+hi) / 2+1:Nat):Int) by omega],rfl,by omega,hch,hhd,by omega,HB1.o⟩
  rw [xag hs] at HCALL;have hkc:¬ (lo+hi) / 2<c:=fun h=>hs (hiff.2 h)
  go_wp2_with (go_at_fn 223;refine HCALL.o.mono ?_;rintro e w1 ⟨rfl,hq⟩)
  have HB1:=hid (zA HB.o hsz hq);go_roundg ((lo+hi) / 2-lo)
  case measure=>omega
  exact ⟨lo,(lo+hi) / 2,rfl,by rw [show ((lo:Int)+(hi:Int)) / 2=(((lo+hi) / 2:Nat):Int) by omega],hlc,by omega,by omega,by omega,HB1.o⟩
 obtain rfl:lo=c:=by omega
 obtain rfl:hi=lo:=by omega
 by_cases hn:hi<d.length
 ·obtain ⟨b1,o1,rfl,k1⟩:∃b off,p=some (aa b off)/\KV.At w b off d:=by
   rcases HD.o with h|h
   ·rw [h] at hn;simp at hn
   exact h
  obtain ⟨y0,y1,y2,y3,y4⟩:=zBd (zC.at_kept k1 HB.o) hi hn;have hiff:=HR.o hi hn;have hsz:=HB.o.size
  generalize d[hi]=x at *
  have hcall:=zAT x t wr;obtain ⟨xn,xs,xt,xl,xp,xc,xo⟩:=x;simp only [Vx.sl,zF] at y0 y1 y2 y3 y4 hiff hcall;have hs:¬ xs<=t:=fun h=>by have:=hiff.1 h;omega
  rw [xag hs] at hcall;have HCALL:=hid hcall;go_wp2_with (go_at_fn 223;refine HCALL.o.mono ?_;rintro e w1 ⟨rfl,hq⟩);have HB1:=hid (zA HB.o hsz hq)
  go_ret2
  exact ⟨⟨_,rfl,rfl⟩,HB1.o⟩
 go_wp2_with fail
 go_ret2
 exact ⟨⟨_,rfl,rfl⟩,HB.o⟩
theorem nN (v:Value) (d:List Vx) (t:Int) (w:World) (a:KV.Is w v d) (g:pR (d.map Vx.ver)) (c:d.length<=2400000000000):CC 172 #[v,.int .u64 t] w fun e i=>e=.returned (.int .i64 (wG (d.map Vx.ver) t:Nat))/\Below w.heap.size w i:=by
 have h:=hid (zQS v d t w a g c);obtain ⟨p,j,rfl,_⟩:=a;go_enter func172,ntmps172;go_wp2_with fail;refine h.o.mono ?_;rintro e w1 ⟨⟨b,rfl,rfl⟩,hq⟩;have f:=hid hq;go_wp2_with fail;go_ret;exact ⟨rfl,f.o⟩
section
variable {n0 g N:Nat} {w:World} {d:List Vx} {vs:Value} {l:List Vr} {n:Int}
theorem uL (a:vE n0 w g d vs):CC 159 #[.pointer (some ⟨g,0,none⟩)] w fun e b=>e=.returned vs/\b=w:=by
 obtain ⟨p,f,rfl⟩:=zC.own_shape a.row;have c:=a.cell;go_enter func159,ntmps159;go_wp2_with fail;go_ret;exact ⟨rfl,rfl⟩
def nA (w:World) (N:Nat):Prop:=w.heap[N]? = some (.cells #[.int .i64 0,.int .u64 0,.int .i64 0,.bool false,.slice none 0 0] 42 (0,0))
theorem nA.cells (h:nA w N):w.cell? ⟨N,0,none⟩=some (.int .i64 0)/\w.cell? ⟨N,1,none⟩=some (.int .u64 0)/\w.cell? ⟨N,2,none⟩=some (.int .i64 0)/\w.cell? ⟨N,3,none⟩=some (.bool false)/\w.cell? ⟨N,4,none⟩=some (.slice none 0 0):=by
 unfold nA at h;refine ⟨?_,?_,?_,?_,?_⟩<;>(rw [zaC h];rfl)
theorem nA.free (h:nA w N) (j:Nat):w.frozen? ⟨N,j,none⟩=false:=by grind [nA,World.frozen?]
theorem sJ (w:World):nA (w.alloc (.cells #[.int .i64 0,.int .u64 0,.int .i64 0,.bool false,.slice none 0 0] 42)) w.heap.size:=xab w _
theorem nA.on {W:World} (h:nA w N) (c:Below w.heap.size w W):nA W N:=by
 have b:N<w.z:=by
  unfold nA at h
  rcases xbd N w.z with a|a
  ·exact a
  grind
 exact (c.block N b).trans h
theorem zQm (t:Int):jX l ((wG l t:Nat)-1:Int)=atV l t:=by
 unfold jX atV
 by_cases h:wG l t=0
 ·rw [xag (by omega),xae h]
 rw [xae (by omega),xag h]
 congr 1
 omega
theorem zNp:jX l ((l.length:Nat)-1:Int)=l.getLast?:=by
 unfold jX;rw [List.getLast?_eq_getElem?]
 by_cases h:l.length=0
 ·grind
 rw [xae (by omega)]
 congr 1
 omega
theorem zR3 {n0:Nat} {w:World} {g:Nat} {d:List Vx} {vs:Value} (hC:vE n0 w g d vs) (t:Int):CC 118 #[.pointer (some ⟨g,0,none⟩),.int .u64 t] w fun e w'=>vZ w (atV (d.map Vx.ver) t) e w':=by
 have HBX:Hid (Below w.heap.size w (w.alloc (.cells #[ii 0,iu 0,ii 0,.bool false,sc none 0 0] 42))):=zaQ;have HZ:=hid (sJ w);obtain ⟨N,hN⟩:∃N,w.heap.size=N:=⟨_,rfl⟩;have hs1:(w.alloc (.cells #[ii 0,iu 0,ii 0,.bool false,sc none 0 0] 42)).heap.size=N+1:=by simp [hN]
 have hC1:=hC.on HBX.out;have HV:=hid (uL hC1);obtain ⟨p,cap,rfl⟩:=zC.own_shape hC.row;have hT:=nN _ d t _ (zC.own_is hC1.row) hC.ok.rise hC.few;have hTo:=fun W hW place=>zAa _ d place W (zC.is_kept (zC.own_is hC1.row) hW) (hC1.on hW).fits hC.few
 have HCL:Hid (wG (d.map Vx.ver) t<=2400000000000):=by have h1:=wP (d.map Vx.ver) t;have h2:=hC.few;rw [zaM] at h1;show _<=_;omega
 have HGA:=hid (zQm (l:=d.map Vx.ver) t);obtain ⟨c,hc⟩:∃c,wG (d.map Vx.ver) t=c:=⟨_,rfl⟩;rw [hc] at hT HCL HGA;have hcl:=HCL.out;have HT:=hid hT;have HTO:=hid hTo;rw [<-HGA.out];have hN':w.heap.size=N:=hN;rw [hN] at HBX HZ;obtain ⟨W1,hW1⟩:∃W1,w.alloc (.cells #[ii 0,iu 0,ii 0,.bool false,sc none 0 0] 42)=W1:=⟨_,rfl⟩;rw [hW1] at HBX HZ HV HT HTO hs1;go_enter func118,ntmps118;go_wp2_with fail;(try rw [hW1]);refine HV.out.mono ?_;rintro e w1 ⟨rfl,rfl⟩;go_wp2_with fail;refine HT.out.mono ?_;rintro e w2 ⟨rfl,hq2⟩;have HQ2:=hid hq2;have HTC:=hid (HTO.out w2 hq2 ((c:Int)-1));have hs2:=hq2.size;go_wp2_with fail;refine HTC.out.mono ?_;rintro e w3 ⟨x,rfl,hx,hJ,hq3⟩;have hZ3:=(HZ.out.on HQ2.out).on hq3;obtain ⟨q0,q1,q2,q3,q4⟩:=hZ3.cells;have r0:=hZ3.free 0;have r1:=hZ3.free 1;have r2:=hZ3.free 2;have r3:=hZ3.free 3;have r4:=hZ3.free 4;have HX:=hid hx;have HJ:=hid (zM hJ (M:=N+1) (by omega));have HB3:Hid (Below N w w3):=zA (zA HBX.out (by omega) HQ2.out) (by omega) hq3;obtain ⟨xn,xs,xt,xl,xp,xc,xo⟩:=x;simp only [zF,Vx.sl] at HJ ⊢
 try simp only [hN]
 go_wp2_with fail
 exact zaB (v:=.tuple #[.agg #[ii xn,iu xs,ii xt,.bool xl,sc xp xo.length xc],.bool (jX (d.map Vx.ver) ((c:Int)-1)).isSome]) (by simp [results,results118,go_sem,q0,q1,q2,q3,q4]) rfl
  ⟨⟨xn,xs,xt,xl,xp,xc,xo⟩,rfl,HX.out,by
   rw [hN];refine zM (N:=N+1) ?_ (by omega);exact zO (zO (zO (zO (zO HJ.out (by omega) _) (by omega) _) (by omega) _) (by omega) _) (by omega) _,by
   rw [hN];exact ((((HB3.out.setCell (zaL _) _).setCell (zaL _) _).setCell (zaL _) _).setCell (zaL _) _).setCell (zaL _) _⟩
theorem zGX (h:OkV l) {n:Int} (c:(e:0<l.length)->n<(l[0]).num):qB l n=none:=by
 unfold qB;rw [List.find?_eq_none];intro v a;obtain ⟨i,hi,rfl⟩:=List.mem_iff_getElem.1 a;have b:=gR h i hi
 grind
theorem zQH (h:OkV l) (e:0<l.length) {n:Int} (c:(l[0]).num<=n):qB l n=jX l (n-(l[0]).num):=by
 unfold jX;rw [xae (by omega)]
 by_cases hk:(n-(l[0]).num).toNat<l.length
 ·grind [zAL,gR]
 rw [xaz (by omega)];unfold qB;rw [List.find?_eq_none];intro v a;obtain ⟨i,hi,rfl⟩:=List.mem_iff_getElem.1 a;have b:=gR h i hi
 grind
theorem zHq {n0:Nat} {w:World} {g:Nat} {d:List Vx} {vs:Value} (a:vE n0 w g d vs) (n:Int) (V:n<=9223372036854775807):CC 200 #[.pointer (some ⟨g,0,none⟩),.int .i64 n] w fun e G=>vZ w (qB (d.map Vx.ver) n) e G:=by
 have c:Hid (Below w.heap.size w (w.alloc (.cells #[ii 0,iu 0,ii 0,.bool false,sc none 0 0] 42))):=zaQ;have u:=a.on c.out;have j:=hid (uL u);have R:=a.few
 rcases xbg d.length with q|q
 ·have k:Hid (qB (d.map Vx.ver) n=none):=zGX a.ok (fun h=>by grind);obtain ⟨p,H,rfl⟩:=zC.own_shape a.row;rw [k.out];rw [q] at j;go_enter func200,ntmps200;go_wp2_with fail;refine j.out.mono ?_;rintro e B ⟨rfl,rfl⟩;go_wp2_with fail
  exact zaB (v:=.tuple #[.agg #[ii 0,iu 0,ii 0,.bool false,sc none 0 0],.bool false]) (by simp [results,results200,go_sem]) rfl
   ⟨yB,rfl,bU,vO _ _,by
    first
    | exact zaQ
    | exact (((((c.out.setCell (zaL _) _).setCell (zaL _) _).setCell (zaL _) _).setCell (zaL _) _).setCell (zaL _) _)⟩
 have he':0<(d.map Vx.ver).length:=by rw [zaM];exact q
 have C:((d.map Vx.ver)[0]).num=(d[0]).num:=by rw [xa4];rfl
 have I:1<=(d[0]).num:=by rw [<-C];exact (a.ok.first _ (zaN he')).1
 obtain ⟨p,H,rfl⟩:=zC.own_shape a.row
 obtain ⟨z,A,rfl,J⟩:∃b off,p=some (aa b off)/\KV.At w b off d:=by
  obtain ⟨Z,O,U,h⟩:=zC.own_is a.row
  grind
 have k1':=zC.at_kept J c.out;have o:=(zBd k1' 0 q).1
 have P:((d.length:Int)==(0:Int))=false:=by
  rw [xb4];omega
 have T:(0:Int)<(d.length:Int):=by omega
 by_cases hn:n<(d[0]).num
 ·have k:Hid (qB (d.map Vx.ver) n=none):=zGX a.ok (fun h=>by omega);rw [k.out];obtain ⟨m,t⟩:∃m,(d[0]).num=m:=⟨_,rfl⟩;rw [t] at o hn;have y0':(w.alloc (.cells #[ii 0,iu 0,ii 0,.bool false,sc none 0 0] 42)).cell? (aa z A)=some (ii m):=by simpa using o
  go_enter func200,ntmps200
  go_wp2_with fail
  refine j.out.mono ?_;rintro e B ⟨rfl,rfl⟩;go_wp2_with fail
  exact zaB (v:=.tuple #[.agg #[ii 0,iu 0,ii 0,.bool false,sc none 0 0],.bool false]) (by simp [results,results200,go_sem]) rfl
   ⟨yB,rfl,bU,vO _ _,by
    first
    | exact zaQ
    | exact (((((c.out.setCell (zaL _) _).setCell (zaL _) _).setCell (zaL _) _).setCell (zaL _) _).setCell (zaL _) _)⟩
 have k:Hid (qB (d.map Vx.ver) n=jX (d.map Vx.ver) (n-(d[0]).num)):=by
  have:=zQH a.ok he' (n:=n) (by omega);rw [C] at this;exact this
 rw [k.out];have r:=hid (zAa _ d (n-(d[0]).num) _ (zC.own_is u.row) u.fits a.few);obtain ⟨m,t⟩:∃m,(d[0]).num=m:=⟨_,rfl⟩;rw [t] at o hn I r ⊢;have y0':(w.alloc (.cells #[ii 0,iu 0,ii 0,.bool false,sc none 0 0] 42)).cell? (aa z A)=some (ii m):=by simpa using o
 have s:=hid (sJ w);obtain ⟨N,i⟩:∃N,w.heap.size=N:=⟨_,rfl⟩;have F:(w.alloc (.cells #[ii 0,iu 0,ii 0,.bool false,sc none 0 0] 42)).heap.size=N+1:=by simp [i]
 rw [i] at s c;obtain ⟨D,y⟩:∃D,w.alloc (.cells #[ii 0,iu 0,ii 0,.bool false,sc none 0 0] 42)=D:=⟨_,rfl⟩;rw [y] at c s j r F y0';go_enter func200,ntmps200;go_wp2_with fail;(try rw [y]);refine j.out.mono ?_;rintro e B ⟨rfl,rfl⟩;go_wp2_with fail;refine r.out.mono ?_;rintro e w3 ⟨x,rfl,hx,hJ,hq3⟩;have f:=s.out.on hq3;obtain ⟨q0,q1,q2,q3,q4⟩:=f.cells;have S:=f.free 0;have Y:=f.free 1;have X:=f.free 2;have Q:=f.free 3;have W:=f.free 4;have K:=hid hx;have E:=hid (zM hJ (M:=N+1) (by omega));have L:Hid (Below N w w3):=zA c.out (by omega) hq3;obtain ⟨xn,xs,xt,xl,xp,xc,xo⟩:=x;simp only [zF,Vx.sl] at E ⊢
 try simp only [i]
 go_wp2_with fail
 exact zaB (v:=.tuple #[.agg #[ii xn,iu xs,ii xt,.bool xl,sc xp xo.length xc],.bool (jX (d.map Vx.ver) (n-m)).isSome]) (by simp [results,results200,go_sem,q0,q1,q2,q3,q4]) rfl
  ⟨⟨xn,xs,xt,xl,xp,xc,xo⟩,rfl,K.out,by
   rw [i];refine zM (N:=N+1) ?_ (by omega);exact zO (zO (zO (zO (zO E.out (by omega) _) (by omega) _) (by omega) _) (by omega) _) (by omega) _,by
   rw [i];exact ((((L.out.setCell (zaL _) _).setCell (zaL _) _).setCell (zaL _) _).setCell (zaL _) _).setCell (zaL _) _⟩
theorem zNc {n0:Nat} {w:World} {g:Nat} {d:List Vx} {vs:Value} (f:vE n0 w g d vs):CC 201 #[.pointer (some ⟨g,0,none⟩)] w fun e t=>vZ w (d.map Vx.ver).getLast? e t:=by
 have c:Hid (Below w.heap.size w (w.alloc (.cells #[ii 0,iu 0,ii 0,.bool false,sc none 0 0] 42))):=zaQ;have i:=hid (sJ w);obtain ⟨N,b⟩:∃N,w.heap.size=N:=⟨_,rfl⟩;have q:(w.alloc (.cells #[ii 0,iu 0,ii 0,.bool false,sc none 0 0] 42)).heap.size=N+1:=by simp [b]
 have h:=f.on c.out;have k:=hid (uL h);obtain ⟨p,y,rfl⟩:=zC.own_shape f.row;have j:=hid (zAa _ d ((d.length:Int)-1) _ (zC.own_is h.row) h.fits f.few);have m:=hid (zNp (l:=d.map Vx.ver));rw [zaM] at m;have A:=f.few;rw [<-m.out];rw [b] at c i;obtain ⟨W1,hW1⟩:∃W1,w.alloc (.cells #[ii 0,iu 0,ii 0,.bool false,sc none 0 0] 42)=W1:=⟨_,rfl⟩;rw [hW1] at c i k j q;go_enter func201,ntmps201;go_wp2_with fail;(try rw [hW1]);refine k.out.mono ?_;rintro e w1 ⟨rfl,rfl⟩;go_wp2_with fail;refine j.out.mono ?_;rintro e w3 ⟨x,rfl,hx,hJ,hq3⟩;have a:=i.out.on hq3;obtain ⟨q0,q1,q2,q3,q4⟩:=a.cells;have u:=a.free 0;have D:=a.free 1;have B:=a.free 2;have C:=a.free 3;have z:=a.free 4;have r:=hid hx;have o:=hid (zM hJ (M:=N+1) (by omega));have s:Hid (Below N w w3):=zA c.out (by omega) hq3;obtain ⟨xn,xs,xt,xl,xp,xc,xo⟩:=x;simp only [zF,Vx.sl] at o ⊢
 try simp only [b]
 go_wp2_with fail
 exact zaB (v:=.tuple #[.agg #[ii xn,iu xs,ii xt,.bool xl,sc xp xo.length xc],.bool (jX (d.map Vx.ver) ((d.length:Int)-1)).isSome]) (by simp [results,results201,go_sem,q0,q1,q2,q3,q4]) rfl
  ⟨⟨xn,xs,xt,xl,xp,xc,xo⟩,rfl,r.out,by
   rw [b];refine zM (N:=N+1) ?_ (by omega);exact zO (zO (zO (zO (zO o.out (by omega) _) (by omega) _) (by omega) _) (by omega) _) (by omega) _,by
   rw [b];exact ((((s.out.setCell (zaL _) _).setCell (zaL _) _).setCell (zaL _) _).setCell (zaL _) _).setCell (zaL _) _⟩
theorem zQY (a:vE n0 w g d vs):CC 107 #[.pointer (some ⟨g,0,none⟩)] w fun e b=>e=.returned (.int .i64 (d.length:Int))/\b=w:=by
 have c:=hid (uL a);obtain ⟨p,f,rfl⟩:=zC.own_shape a.row;go_enter func107,ntmps107;go_wp2_with fail;refine c.o.mono ?_;rintro e w1 ⟨rfl,rfl⟩;go_wp2_with fail;go_ret;exact ⟨rfl,rfl⟩
end
section
variable {n0 cap g:Nat} {w:World} {p:Option Addr} {d:List Vx} {vs:Value}
theorem zA5 (h:KV.Own n0 w (.slice p d.length cap) d):d.length<=cap/\(p=none->d.length=0/\cap=0):=by
 rcases h.2 with ⟨a,b⟩|⟨g,c,e,a,_,_,b,_⟩
 ·grind
 grind
def zH2 (p:Option Addr) (n cap k:Nat):Value:=.slice (if cap=k then p else p.map (·.add (k * 5))) (n-k) (cap-k)
theorem zKV (h:KV.Own n0 w (.slice p d.length cap) d) (k:Nat) (i:k<=d.length):KV.Is w (zH2 p d.length cap k) (d.drop k):=by
 obtain ⟨j,_⟩:=zA5 h;unfold zH2;refine ⟨_,_,by rw [xaw],?_⟩
 by_cases hl:k=d.length
 ·grind
 right;obtain ⟨m,l,c,a⟩:=zC.own_is h;injection c with e1 _ _
 subst e1
 rcases a with a|⟨b,e,rfl,f⟩
 ·grind
 rw [xag (by omega)];exact ⟨b,e+k * 5,by simp [addr_add],zQE k f⟩
theorem zME (b:vE n0 w g d vs) (t:Int):CC 196 #[.pointer (some ⟨g,0,none⟩),.int .u64 t] w fun e q=>vX w (vK (d.map Vx.ver) t) e q:=by
 have v:=hid (uL b);obtain ⟨p,cap,rfl⟩:=zC.own_shape b.row;have l:=hid (nN _ d t w (zC.own_is b.row) b.ok.rise b.few);have hcut:=wP (d.map Vx.ver) t;rw [zaM] at hcut;have B:=(zA5 b.row).1
 have z:cap<=maxLen:=by
  rcases b.row.2 with ⟨r,_⟩|⟨_,c,_,r,_,_,_,y,_⟩
  ·grind
  grind
 unfold maxLen at z;have F:=(zA5 b.row).2;unfold vK;obtain ⟨c,A⟩:=eE (wG (d.map Vx.ver) t);rw [A] at l hcut ⊢
 have h:Hid (∀W,Bw w W->CC 245 #[zH2 p d.length cap c] W fun e q=>vX W ((d.map Vx.ver).drop c) e q):=fun W s=>by
  rw [<-List.map_drop];exact zB5 _ (d.drop c) W (zC.is_kept (zKV b.row c hcut) s) (fun x j=>(b.on s).fits x (xaK j)) (by rw [xaw];have:=b.few;omega)
 have r:(0:Int)<=(c:Int):=by omega
 have y:(c:Int)<=(d.length:Int):=by omega
 have E:(d.length:Int)<=(cap:Int):=by omega
 have D:(c:Int)<=(cap:Int):=by omega
 unfold zH2 at h
 by_cases hcc:cap=c
 ·subst hcc;rw [xae rfl] at h;obtain rfl:d.length=cap:=by omega
  go_enter func196,ntmps196
  go_wp2_with fail
  refine v.o.mono ?_;rintro e n ⟨rfl,rfl⟩;go_wp2_with fail;refine l.o.mono ?_;rintro e w2 ⟨rfl,hq2⟩;have k:=hid (h.o w2 hq2);have i:=hid hq2;simp only [Nat.sub_self] at k;go_wp2_with fail;refine k.o.mono ?_;rintro e w3 ⟨u,o,rfl,a1,a2,a3,a4,a5⟩;have f:=i.o.size;have m:Hid (vX n ((d.map Vx.ver).drop d.length) (.returned u) w3):=⟨u,o,rfl,zC.own_weak a1 f,fun x j=>zM (a2 x j) f,a3,a4,zA i.o f a5⟩;go_wp2_with fail;go_ret;exact m.o
 rw [xag hcc] at h
 obtain ⟨a,rfl⟩:∃a,p=some a:=by
  cases p with
  | none=>grind
  | some a=>grind
 have C:¬ (cap:Int)=(c:Int):=by omega
 go_enter func196,ntmps196
 go_wp2_with fail
 refine v.o.mono ?_;rintro e n ⟨rfl,rfl⟩;go_wp2_with fail;refine l.o.mono ?_;rintro e w2 ⟨rfl,hq2⟩;have k:=hid (h.o w2 hq2);have i:=hid hq2;go_wp2_with fail;refine k.o.mono ?_;rintro e w3 ⟨u,o,rfl,a1,a2,a3,a4,a5⟩;have f:=i.o.size;have m:Hid (vX n ((d.map Vx.ver).drop c) (.returned u) w3):=⟨u,o,rfl,zC.own_weak a1 f,fun x j=>zM (a2 x j) f,a3,a4,zA i.o f a5⟩;go_wp2_with fail;go_ret;exact m.o
def qO (n0:Nat) (w:World) (g:Nat) (d:List Vx) (vs:Value) (l:List Vr) (w':World):Prop:=∃d' vs',vE n0 w' g d' vs'/\d'.map Vx.ver=l/\(∀k,zBm g d' vs' k->zBm g d vs k∨w.heap.size<=k)/\Fr (zBm g d vs) w w'
theorem qO.same {W:World} (b:vE n0 w g d vs) (a:Below w.heap.size w W):qO n0 w g d vs (d.map Vx.ver) W:=⟨d,vs,b.on a,rfl,fun _ h=>xac h,Fr.of_below a⟩
theorem zIl {l:List Vr} {n:Nat} (h:n<l.length):yF (l.drop n)=yF l:=by grind [yF]
theorem zMS (i:vE n0 w g d vs) (f:Int):CC 121 #[.pointer (some ⟨g,0,none⟩),.int .u64 f] w fun e r=>e=.returned (.int .i64 (vH (d.map Vx.ver) f:Nat))/\qO n0 w g d vs (wV (d.map Vx.ver) f) r:=by
 have j:=hid i;have A:=hid (uL i);obtain ⟨p,cap,rfl⟩:=zC.own_shape i.row;have q:=hid (nN _ d f w (zC.own_is i.row) i.ok.rise i.few);have hcut:=wP (d.map Vx.ver) f;rw [zaM] at hcut;have T:=(zA5 i.row).1;have O:=i.few;unfold wV vH;obtain ⟨c,hc⟩:=eE (wG (d.map Vx.ver) f);rw [hc] at q hcut ⊢
 by_cases h1:c<=1
 ·have t:c-1=0:=by omega
  rw [t,List.drop_zero];have H:(c:Int)-1<=0:=by omega
  go_enter func121,ntmps121
  go_wp2_with fail
  refine A.o.mono ?_;rintro e y ⟨rfl,rfl⟩;go_wp2_with fail;refine q.o.mono ?_;rintro e w2 ⟨rfl,hq2⟩;have n:=hid hq2;go_wp2_with fail;go_ret;exact ⟨rfl,qO.same j.o n.o⟩
 obtain ⟨m,rfl⟩:∃m,c=m+1:=⟨c-1,by omega⟩;have t:m+1-1=m:=by omega
 rw [t];have B:((m+1:Nat):Int)=(m:Int)+1:=by omega
 rw [B] at q;have H:¬ (m:Int)<=0:=by omega
 have R:m<d.length:=by omega
 have U:0<m:=by omega
 obtain ⟨b,J⟩:∃b,p=some (aa b 0):=by
  rcases i.row.2 with ⟨h,_⟩|⟨b,_,_,h,_⟩
  ·omega
  grind
 subst J
 have G:Hid (∀W,Bw w W->CC 173 #[sc (some (aa b (m * 5))) (d.length-m) (cap-m)] W fun e r=>∃u,e=.returned u/\KV.Own W.heap.size r u (d.drop m)/\Bw W r):=fun W C=>by
  have:=zKV i.row m (by omega);unfold zH2 at this;rw [xag (by omega)] at this;have E:(some ((aa b 0):Addr)).map (·.add (m * 5))=some (aa b (m * 5)):=by simp [addr_add]
  rw [E] at this;exact zCi _ (d.drop m) W (zC.is_kept this C) (by grind)
 have S:(0:Int)<=(m:Int):=by omega
 have V:(m:Int)<=(d.length:Int):=by omega
 have M:(d.length:Int)<=(cap:Int):=by omega
 have Z:(m:Int)<=(cap:Int):=by omega
 have P:¬ cap=m:=by omega
 go_enter func121,ntmps121
 go_wp2_with fail
 refine A.o.mono ?_;rintro e y ⟨rfl,rfl⟩;go_wp2_with fail;refine q.o.mono ?_;rintro e w2 ⟨rfl,hq2⟩;have n:=hid hq2;have Y:=(j.o.on hq2).cell;have F:=hid (G.o w2 hq2);go_wp2_with fail;refine F.o.mono ?_;rintro e w3 ⟨u,rfl,a1,a2⟩;obtain ⟨pu,cu,hu⟩:=zC.own_shape a1;have s:=(j.o.on n.o).on a2;have D:=s.cell;have I:=s.free;have K:=zA n.o n.o.size a2
 have z:Hid (qO n0 y g d (sc (some (aa b 0)) d.length cap) ((d.map Vx.ver).drop m) (w3.setCell (aa g 0) u)):=by
  have v:Fr (fun k=>k=g) w3 (w3.setCell (aa g 0) u):=Fr.of_grown (xS w3 g 0 u) fun k a=>by grind
  have Q:g<y.heap.size:=zI j.o.cell;have L:=j.o.base;have N:=n.o.size;have X:∀k,u.ownBlock=some k->w2.heap.size<=k:=fun k a=>(zaW (show w3.ownsRow w2.heap.size 42 5 u (d.drop m).length (KV.cells (d.drop m)) from a1) k a).1
  refine ⟨d.drop m,u,⟨?_,?_,L,?_,fun x l=>?_,?_,?_,?_⟩,List.map_drop.symm▸rfl,?_,?_⟩
  ·simp [go_sem,D]
  ·simp [go_sem,I]
  ·exact v.row (show w3.ownsRow n0 42 5 u (d.drop m).length (KV.cells (d.drop m)) from own_weak a1 (by omega)) fun k a e=>by grind
  ·have hx':=s.each x (xaK l);exact ⟨yC hx'.1 v fun k a e=>j.o.off k (xaf ⟨x,xaK l,a⟩) e,hx'.2⟩
  ·rintro k (a|⟨x,l,a⟩)
   ·grind
   exact j.o.off k (xaf ⟨x,xaK l,a⟩)
  ·rw [List.map_drop];exact zEj j.o.ok _
  ·rw [List.map_drop,zIl (by grind)];exact j.o.top
  ·rintro k (rfl|a|⟨x,l,a⟩)
   ·exact xac (xac rfl)
   ·grind
   exact xac (xaf (xaf ⟨x,xaK l,a⟩))
  exact (Fr.of_below K).then v fun k a=>xac (xac a)
 subst hu;rw [xaw] at z;go_wp2_with fail;go_ret;exact ⟨rfl,z.o⟩
theorem zKG (w:World):CC 166 #[] w fun e b=>e=.returned (.pointer (some ⟨w.heap.size,0,none⟩))/\vE w.heap.size b w.heap.size [] (.slice none 0 0)/\Below w.heap.size w b:=by
 have f:Hid (vE w.z (w.alloc (.cells #[sc none 0 0] 265)) w.z [] (sc none 0 0)):=by
  refine ⟨by simp [go_sem],?_,zaL _,KV.own_nil _ _,fun x a=>by simp at a,?_,zOJ,by decide⟩
  ·grind [World.frozen?,heap_alloc_new]
  rintro k (c|⟨x,a,_⟩)
  ·cases c
  simp at a
 go_enter func166,ntmps166
 go_wp2_with fail
 go_ret;exact ⟨rfl,f.o,zaQ⟩
end
section
variable {w W:World} {N:Nat} {x:Vx}
def xL (d:List Vx):Vx:=d.getLast?.getD yB
theorem qC (d:List Vx):(xL d).ver=yF (d.map Vx.ver):=by
 unfold xL yF;rw [List.getLast?_map]
 cases d.getLast?<;>rfl
def uI (l:List Vr) (stamp:Int) (live:Bool) (val:List Fld):Int:=mY 8 3 6 (yZ val) l stamp live
def zBR (l:List Vr) (stamp:Int) (live:Bool) (val:List Fld):Int:=if uI l stamp live val=0 then (yF l).num+1 else 0
def zBL (l:List Vr) (stamp tick:Int) (live:Bool) (val:List Fld):List Vr:=if uI l stamp live val=0 then tY l stamp tick live val else l
def wO (w:World) (N:Nat) (x:Vx):Prop:=w.heap[N]? = some (.cells (zF x).toArray 42 (0,0))
theorem wO.cells (h:wO w N x):zBK w N 0 x:=by
 unfold wO at h;refine ⟨?_,?_,?_,?_,?_⟩<;>(rw [zaC h];rfl)
theorem wO.free (h:wO w N x) (j:Nat):w.frozen? ⟨N,j,none⟩=false:=by grind [wO,World.frozen?]
theorem wO.lt (h:wO w N x):N<w.heap.size:=by grind [wO]
theorem wO.on (h:wO w N x) (a:Below w.heap.size w W):wO W N x:=(a.block N h.lt).trans h
theorem zAr {ops:Array Oper} {o:Oper} {a:Act} {K:Act->World->Prop} {Q:Exit->Act->World->Prop} {E:Prop} (w:World) (n:o.guard=none) (s x:Operand)
  (ho:o.op=.call { callee:=.builtin .append,args:=#[s,x],argTypes:=#[44,44] }) (N:Nat) (v:Value) (d:List Vx) (hs:a.eval s=v) (hoj:KV.Own N w v d) (B:Nat) (f:Vx)
  (hx:a.eval x=.slice (some ⟨B,0,none⟩) 1 1) (hB:wO w B f) (hl:d.length<=2400000000000) (hN:N<=w.heap.size)
  (h:∀g c b,KV.Own N b (.slice (some ⟨g,0,none⟩) (d.length+1) c) (d++[f])->w.grownBy b v.ownBlock->(v.ownBlock=some g∨g=w.heap.size)->K (a.put o.dst (.slice (some ⟨g,0,none⟩) (d.length+1) c)) b):if Region.wanted o (yielded ops a.tmps)=true then Oper.wp prog o a w K Q else E:=by
 obtain ⟨l,hj,r,p,q⟩:=xaL Tryz.infoVer;refine step_append_lies w n s x 44 ho N 42 l (.agg #[ii 0,iu 0,ii 0,.bool false,sc none 0 0]) 5 56 underlying44 hj r p q rfl (by decide) v d.length (KV.cells d) hs hoj (aa B 0) 1 1 (KV.cells [f]) hx rfl (fun j u e=>?_) (KV.cells_ones _) (by decide) (by unfold maxLen;omega) (by omega) hN _ rfl (fun g c b i k m _=>h g c b (zC.own_snoc i rfl rfl) k m);rw [zC.cells_one] at e;exact World.news_of_block hB j u e
theorem vE.push {n0:Nat} {w4:World} {g:Nat} {d:List Vx} {p:Option Addr} {j:Nat} (i:vE n0 w g d (.slice p d.length j)) (q:Below w.heap.size w W) (x:Vx) (z:zW w.heap.size W x.sl x.o) (C:yZ (x.o.map Fx.fld)=true)
  {b c:Nat} (ho:KV.Own n0 w4 (.slice (some ⟨b,0,none⟩) (d.length+1) c) (d++[x])) (hg:W.grownBy w4 (Value.slice p d.length j).ownBlock) (hat:(Value.slice p d.length j).ownBlock=some b∨w.heap.size<=b)
  (hok:OkV ((d++[x]).map Vx.ver)) (htop:x.num<=2400000000000):qO n0 w g d (.slice p d.length j) ((d++[x]).map Vx.ver) (w4.setCell ⟨g,0,none⟩ (.slice (some ⟨b,0,none⟩) (d.length+1) c)):=by
 have B:g<w.heap.size:=zI i.cell;have m:=i.on q;have A:=i.base;have D:=q.size;have n:Fr (fun k=>(Value.slice p d.length j).ownBlock=some k) W w4:=Fr.of_grown hg fun k f=>f
 have r:Fr (fun k=>k=g) w4 (w4.setCell (aa g 0) (sc (some (aa b 0)) (d.length+1) c)):=Fr.of_grown (xS w4 g 0 _) fun k f=>by grind
 have E:b≠g:=by
  rcases hat with h|h
  ·exact i.off b (xac h)
  omega
 have s:w4.cell? (aa g 0)=some (sc p d.length j):=n.cell m.cell fun h=>i.off g (xac h) rfl
 have v:w4.frozen? (aa g 0)=false:=by
  have l:=m.free;unfold World.frozen? at l ⊢;rw [n.block g (by omega) fun h=>i.off g (xac h) rfl];exact l
 have hj:∀y∈d++[x],zW n0 W y.sl y.o/\yZ (y.o.map Fx.fld)=true:=fun y a=>by
  rcases List.mem_append.1 a with a|a
  ·exact m.each y a
  grind [zM]
 have t:∀k,zIq x k->w.heap.size<=k:=fun k f=>(yL z k f).1
 refine ⟨d++[x],sc (some (aa b 0)) (d.length+1) c,⟨by simp [go_sem,s],by simp [go_sem,v],A,?_,fun y a=>?_,?_,hok,?_⟩,rfl,?_,?_⟩
 ·exact r.row (show w4.ownsRow n0 42 5 (sc (some (aa b 0)) (d.length+1) c) (d++[x]).length (KV.cells (d++[x])) from ho) fun k f e=>by grind [Value.ownBlock]
 ·obtain ⟨l,u⟩:=hj y a;refine ⟨yC (yC l n fun k f e=>zJx m.row l k e f) r fun k f e=>?_,u⟩
  rcases List.mem_append.1 a with a|a
  ·exact i.off k (xaf ⟨y,a,f⟩) e
  rw [xaH] at a;subst a;have:=t k f;omega
 ·rintro k (f|⟨y,a,f⟩)
  ·grind [Value.ownBlock]
  rcases List.mem_append.1 a with a|a
  ·exact i.off k (xaf ⟨y,a,f⟩)
  grind
 ·grind [yF,Vx.ver]
 ·rintro k (rfl|f|⟨y,a,f⟩)
  ·exact xac (xac rfl)
  ·have:b=k:=by simpa [Value.ownBlock] using f
   subst this
   rcases hat with h|h
   ·exact xac (xaf (xac h))
   omega
  rcases List.mem_append.1 a with a|a
  ·exact xac (xaf (xaf ⟨y,a,f⟩))
  grind
 exact ((Fr.of_below q).then n fun k f=>xac (xaf (xac f))).then r fun k f=>xac (xac f)
end
section
variable {l:List Vr} {stamp tick:Int} {live:Bool} {val:List Fld} {n0 cap g:Nat} {w W:World} {d:List Vx} {p:Option Addr} {vs:Value}
theorem zKR (h:OkV l):0<=(yF l).stamp:=by
 rcases xbg l.length with e|e
 ·obtain rfl:=List.length_eq_zero_iff.1 e;exact xbo _
 rw [tP e];have:=(h.first _ (zaN (show l.length-1<l.length by omega))).2.1;omega
theorem zOm (h:stamp<=(yF l).stamp):uI l stamp live val=8:=by grind [uI,mY]
theorem zQ1 (a:0<=(yF l).stamp) (h:¬ stamp<=(yF l).stamp):uI l stamp live val=if live=true/\yZ val=false then 3 else if live=false/\(yF l).live=false then 6 else 0:=by grind [uI,mY]
theorem zPi {b n:Nat} (h:KV.Own n0 w (.slice (some ⟨b,0,none⟩) n cap) d) (f:0<d.length):KV.At w b 0 d:=by
 obtain ⟨i,e,c,a⟩:=zC.own_is h
 grind
def zRX (w:World) (d:List Vx) (p:Option Addr) (L:Vx):Prop:=(d=[]/\L=yB)∨∃b k,d.length=k+1/\p=some ⟨b,0,none⟩/\zBK w b (k * 5) L
theorem zKU (c:vE n0 w g d (.slice p d.length cap)):zRX w d p (xL d):=by
 rcases xbg d.length with a|a
 ·obtain rfl:=List.length_eq_zero_iff.1 a;exact xac ⟨rfl,rfl⟩
 right
 obtain ⟨f,rfl⟩:∃b,p=some (aa b 0):=by
  rcases c.row.2 with ⟨h,_⟩|⟨b,_,_,h,_⟩
  ·omega
  grind
 obtain ⟨k,e⟩:∃k,d.length=k+1:=⟨d.length-1,by omega⟩
 have i:xL d=d[k]:=by
  unfold xL;rw [List.getLast?_eq_getElem?,show d.length-1=k by omega,xai (by omega)];rfl
 have:=zBd (zPi c.row a) k (by omega);rw [xaJ] at this;refine ⟨f,k,e,rfl,?_⟩;rw [i];exact this
theorem gF (e:vE n0 w g d vs) {stamp tick:Int} {live:Bool} {val:List Fld} {c:Int} (b:uI (d.map Vx.ver) stamp live val=c) (a:c≠0) {W:World} (f:Below w.heap.size w W):Value.tuple #[.int .i64 0,.int .i64 c]=Value.tuple #[.int .i64 (zBR (d.map Vx.ver) stamp live val),.int .i64 (uI (d.map Vx.ver) stamp live val)]/\qO n0 w g d vs (zBL (d.map Vx.ver) stamp tick live val) W:=by
 unfold zBR zBL;rw [b,xag a,xag a]
 grind [qO.same]
theorem zKN {w4:World} (a:vE n0 w g d (.slice p d.length cap)) {stamp tick:Int} {live:Bool} {val:List Fld} (e:0<=stamp) (f:uI (d.map Vx.ver) stamp live val=0) (j:(yF (d.map Vx.ver)).num<2400000000000)
  (hb:Below w.heap.size w W) {pu:Option Addr} {cu:Nat} {o:List Fx} (hx:zW w.heap.size W (.slice pu o.length cu) o) (hm:yZ (o.map Fx.fld)=true) (hv:o.map Fx.fld=if live=true then val else [])
  {b c:Nat} (ho:KV.Own n0 w4 (.slice (some ⟨b,0,none⟩) (d.length+1) c) (d++[⟨(xL d).num+1,stamp,tick,live,pu,cu,o⟩])) (hg:W.grownBy w4 (Value.slice p d.length cap).ownBlock) (hat:(Value.slice p d.length cap).ownBlock=some b∨w.heap.size<=b):Value.tuple #[.int .i64 ((xL d).num+1),.int .i64 0]=Value.tuple #[.int .i64 (zBR (d.map Vx.ver) stamp live val),.int .i64 (uI (d.map Vx.ver) stamp live val)]/\qO n0 w g d (.slice p d.length cap) (zBL (d.map Vx.ver) stamp tick live val) (w4.setCell ⟨g,0,none⟩ (.slice (some ⟨b,0,none⟩) (d.length+1) c)):=by
 have h:(xL d).num=(yF (d.map Vx.ver)).num:=by rw [<-qC];rfl
 have k:(d++[(⟨(xL d).num+1,stamp,tick,live,pu,cu,o⟩:Vx)]).map Vx.ver=tY (d.map Vx.ver) stamp tick live val:=by
  rw [xak];unfold tY
  congr 1
  show [Vr.mk _ _ _ _ _]=_
  rw [hv,h]
 have i:OkV (tY (d.map Vx.ver) stamp tick live val):=zOV a.ok e (by decide) (by decide) (by decide) f;have m:=a.push hb ⟨(xL d).num+1,stamp,tick,live,pu,cu,o⟩ hx hm ho hg hat (by grind) (by grind)
 grind [zBR,zBL]
structure zQw (n0:Nat) (w:World) (g:Nat) (d:List Vx) (vs:Value) (W5:World) (M S:Nat) (X:Vx):Prop where
 cell:W5.cell? ⟨g,0,none⟩=some vs
 free:W5.frozen? ⟨g,0,none⟩=false
 new:zBK W5 M 0 X
 next:∀ob,(W5.alloc ob).cell? ⟨g,0,none⟩=some vs
 own:∀ob,KV.Own n0 (W5.alloc ob) vs d
 big:∀ob,n0<=(W5.alloc ob).heap.size
 lies:wO (W5.alloc (.cells (zF X).toArray 42)).drew S X
 then_:∀ob w6,(W5.alloc ob).drew.grownBy w6 vs.ownBlock->w6.cell? ⟨g,0,none⟩=some vs/\w6.frozen? ⟨g,0,none⟩=false/\w6.cell? ⟨M,0,none⟩=some (.int .i64 X.num)
 ne:¬ M=g
 bel:∀ob,Below w.heap.size w (W5.alloc ob).drew
 high:∀ob b,b=(W5.alloc ob).drew.heap.size->w.heap.size<=b
theorem zFA (f:vE n0 w g d vs) {c:World} {M S:Nat} {X:Vx} (j:Below w.heap.size w c) (i:wO c M X) (x:w.heap.size<=M) (s:c.heap.size=S):zQw n0 w g d vs c M S X:=by
 have h:=f.on j;have t:g<w.heap.size:=zI f.cell;have q:=j.size;have u:=i.lt
 refine ⟨h.cell,h.free,i.cells,fun a=>zDv a h.cell,fun a=>zC.own_on h.row (zaQ),fun a=>by have:=f.base;simp;omega,?_,fun a o m=>?_,by omega,fun a=>zG (j.alloc q _) 1,fun a b v=>by
  have e:(c.alloc a).drew.heap.size=c.heap.size+1:=by show (c.alloc a).heap.size=_;simp
  omega⟩
 ·rw [<-s];exact xab c _
 have k:=h.on ((zaR _ _).alloc (zaL _) a);have n:o.heap[g]? = (c.alloc a).heap[g]?:=m.block g (by show g<(c.alloc a).heap.size;simp;omega) fun e=>f.off g (xac e.symm) rfl
 have r:o.heap[M]? = (c.alloc a).heap[M]?:=m.block M (by show M<(c.alloc a).heap.size;simp;omega) fun e=>by
  have:=(f.blk M (xaf (xac e.symm))).2;omega
 exact ⟨(xap n).trans k.cell,(World.frozen?_of_block n).trans k.free,(xap r).trans (zDv a i.cells.1)⟩
theorem zOL (f:vE n0 w g d vs) (stamp tick:Int) (v:Value) (val:List Fld) (h0:0<=stamp) (V:(yF (d.map Vx.ver)).num<2400000000000):CC 167 #[.pointer (some ⟨g,0,none⟩),.int .u64 stamp,.int .i64 tick,.bool false,v] w fun r w' =>
   r=.returned (.tuple #[.int .i64 (zBR (d.map Vx.ver) stamp false val),.int .i64 (uI (d.map Vx.ver) stamp false val)])/\qO n0 w g d vs (zBL (d.map Vx.ver) stamp tick false val) w':=by
 have ab:Hid (Bw w (w.alloc (.cells #[ii 0,iu 0,ii 0,.bool false,sc none 0 0] 42))):=zaQ;have i:Hid (Bw w (w.alloc (.cells (zF (xL d)).toArray 42))):=zaQ;have J:Hid (wO (w.alloc (.cells (zF (xL d)).toArray 42)) w.heap.size (xL d)):=xab w _;have U:=f.on ab.o;have S:=f.on i.o;have n:=hid f;have ad:=f.few;obtain ⟨p,cap,rfl⟩:=zC.own_shape f.row;have z:=U.cell;have H:=S.cell;have G:=S.free;have aj:=zKR f.ok;have an:(xL d).stamp=(yF (d.map Vx.ver)).stamp:=by rw [<-qC];rfl
 have ah:(xL d).live=(yF (d.map Vx.ver)).live:=by rw [<-qC];rfl
 have P:(xL d).num=(yF (d.map Vx.ver)).num:=by rw [<-qC];rfl
 have Q:0<=(xL d).num:=by have:=zEg f.ok;rw [P];omega
 have m:=hid (zKU U)
 have B:Hid ((xL d).stamp<stamp∨uI (d.map Vx.ver) stamp false val=8):=by
  rcases Int.lt_or_le (xL d).stamp stamp with h|h
  ·grind
  grind [zOm]
 have u:Hid ((xL d).stamp<stamp->uI (d.map Vx.ver) stamp false val=if (xL d).live=false then 6 else 0):=fun h=>by
  rw [zQ1 aj (by omega),xag (by simp),ah];simp
 have F:(xL d).num<2400000000000:=by rw [P];exact V
 have A:Hid (∀(W t:World) (b c:Nat),uI (d.map Vx.ver) stamp false val=0->Bw w W->KV.Own n0 t (sc (some (aa b 0)) (d.length+1) c) (d++[⟨(xL d).num+1,stamp,tick,false,none,0,[]⟩])->W.grownBy t (Value.slice p d.length cap).ownBlock->((Value.slice p d.length cap).ownBlock=some b∨w.heap.size<=b)->_):=fun W t b c hc hb X hg ak=>zKN (W:=W) (w4:=t) f (tick:=tick) h0 hc V hb (pu:=none) (cu:=0) (o:=[]) (vO _ _) pC rfl X hg ak
 obtain ⟨L,Y⟩:=eE (xL d);rw [Y] at i m B u A Q F H G J;obtain ⟨xn,xs,xt,xl,xp,xc,xo⟩:=L;simp only [zF,Vx.sl] at i m B u A Q F H G J
 by_cases E:xs<stamp
 ·have hs':¬ stamp<=xs:=by omega
  cases xl with
  | false =>
   have j:=hid (u.o E);rw [xae rfl] at j
   rcases m.o with ⟨rfl,s⟩|⟨y,k,e,rfl,K,O,I,M,q⟩
   ·cases s;have e0:([]:List Vx).length=0:=rfl;go_enter func167,ntmps167;go_wp2_with fail
    go_ret2
    have:=gF (tick:=tick) n.o j.o (by decide) i.o;exact ⟨xad Ending.returned this.1,this.2⟩
   rw [e] at z;simp only [Vx.sl] at q;go_enter func167,ntmps167;go_wp2_with fail
   go_ret2
   have:=gF (tick:=tick) n.o j.o (by decide) i.o
   simp_all
  | true =>
  have j:=hid (u.o E);rw [xag (by simp)] at j
  rcases m.o with ⟨rfl,s⟩|⟨y,k,e,rfl,K,O,I,M,q⟩
  ·cases s
  rw [e] at z;simp only [Vx.sl] at q;go_enter func167,ntmps167;go_wp2_with fail;obtain ⟨N,x⟩:=eE w.heap.size;obtain ⟨W5,hW5⟩:=eE ((w.alloc (.cells #[ii xn,iu xs,ii xt,.bool true,sc xp xo.length xc] 42)).alloc (.cells #[ii (xn+1),iu stamp,ii tick,.bool false,sc none 0 0] 42));have ae:Bw w W5:=by rw [<-hW5];exact i.o.alloc (by simp) _
  have ag:W5.heap.size=N+2:=by rw [<-hW5,<-x];simp
  have af:wO W5 (N+1) ⟨xn+1,stamp,tick,false,none,0,[]⟩:=by
   rw [<-hW5,<-x];exact heap_alloc2_new w _ _
  have a:=hid (zFA n.o ae af (by omega) ag);obtain ⟨q0,q1,q2,q3,Z⟩:=a.o.new;have q4:W5.cell? (aa (N+1) (0+4))=some (sc none 0 0):=Z;have c5:=a.o.cell;have z5:=a.o.free;have a5:=a.o.next;have al:=a.o.ne;rw [e] at c5 a5;try rw [hW5];try rw [x]
  go_region_law (first
   | (refine zAr _ (by rfl) (.tmp 64) (.tmp 66) (by rfl) n0 (sc (some (aa y 0)) (k+1) cap) d (by rfl) (by rw [<-e];exact a.o.own _) _ ⟨xn+1,stamp,tick,false,none,0,[]⟩ (by rfl) (by exact a.o.lies) ad (a.o.big _) ?_;intro b6 ai w6 ac C T;rw [<-e] at C T;obtain ⟨ap,ao,am⟩:=a.o.then_ _ _ C))
  all_goals
   have D:=hid (A.o _ w6 b6 ai j.o (a.o.bel _) ac C (T.imp id (a.o.high _ _)));rw [e] at D;go_wp2_with fail
   go_ret2
   exact ⟨xad Ending.returned D.o.1,D.o.2⟩
 have hs':stamp<=xs:=by omega
 have R:Hid (uI (d.map Vx.ver) stamp false val=8):=by
  rcases B.o with h|h
  ·omega
  exact h
 rcases m.o with ⟨rfl,s⟩|⟨y,k,e,rfl,K,O,I,M,q⟩
 ·cases s;have e0:([]:List Vx).length=0:=rfl;go_enter func167,ntmps167;go_wp2_with fail
  go_ret2
  have:=gF (tick:=tick) n.o R.o (by decide) i.o;exact ⟨xad Ending.returned this.1,this.2⟩
 rw [e] at z;simp only [Vx.sl] at q;go_enter func167,ntmps167;go_wp2_with fail
 go_ret2
 have:=gF (tick:=tick) n.o R.o (by decide) i.o
 simp_all
end
section
variable {n0 g:Nat} {w:World} {d:List Vx} {vs:Value}
theorem zNF (E:vE n0 w g d vs) (a tick:Int) (v:Value) (e:List Fx) (m:List Fld) (hv:wH w v e) (hf:yW e) (ar:e.map Fx.fld=m) (h0:0<=a) (an:(yF (d.map Vx.ver)).num<2400000000000):CC 167 #[.pointer (some ⟨g,0,none⟩),.int .u64 a,.int .i64 tick,.bool true,v] w fun r w' =>
   r=.returned (.tuple #[.int .i64 (zBR (d.map Vx.ver) a true m),.int .i64 (uI (d.map Vx.ver) a true m)])/\qO n0 w g d vs (zBL (d.map Vx.ver) a tick true m) w':=by
 have av:Hid (Bw w (w.alloc (.cells #[ii 0,iu 0,ii 0,.bool false,sc none 0 0] 42))):=zaQ;have s:Hid (Bw w (w.alloc (.cells (zF (xL d)).toArray 42))):=zaQ;have S:Hid (wO (w.alloc (.cells (zF (xL d)).toArray 42)) w.heap.size (xL d)):=xab w _;have am:=E.on av.o;have J:=E.on s.o;have T:=hid E;have aq:=E.few;obtain ⟨p,ah,rfl⟩:=zC.own_shape E.row;have c0:=am.cell;have cL:=J.cell;have zL:=J.free;have bb:=zKR E.ok;have ay:(xL d).stamp=(yF (d.map Vx.ver)).stamp:=by rw [<-qC];rfl
 have ba:(xL d).live=(yF (d.map Vx.ver)).live:=by rw [<-qC];rfl
 have ak:(xL d).num=(yF (d.map Vx.ver)).num:=by rw [<-qC];rfl
 have au:0<=(xL d).num:=by have:=zEg E.ok;rw [ak];omega
 have z:=hid (zKU am)
 have H:Hid ((xL d).stamp<a∨uI (d.map Vx.ver) a true m=8):=by
  rcases Int.lt_or_le (xL d).stamp a with h|h
  ·grind
  grind [zOm]
 have ap:(xL d).num<2400000000000:=by rw [ak];exact an
 have B:Hid ((xL d).stamp<a->uI (d.map Vx.ver) a true m=if yZ m=false then 3 else 0):=fun h=>by grind [zQ1]
 have F:Hid (∀(W l:World) (b c:Nat) (j:Option Addr) (i:Nat) (o:List Fx),(uI (d.map Vx.ver) a true m=0/\yZ m=true)->Bw w W->zW w.heap.size W (sc j o.length i) o->o.map Fx.fld=m->KV.Own n0 l (sc (some (aa b 0)) (d.length+1) c) (d++[⟨(xL d).num+1,a,tick,true,j,i,o⟩])->W.grownBy l (Value.slice p d.length ah).ownBlock->((Value.slice p d.length ah).ownBlock=some b∨w.heap.size<=b)->_):=fun W l b c j i o hc hb hj hm ho hg bd=>zKN (W:=W) (w4:=l) E (tick:=tick) h0 hc.1 an hb (pu:=j) (cu:=i) (o:=o) hj (by grind) hm ho hg bd
 have n:=hid (zKA v e _ (hv.kept s.o) hf)
 have C:Hid (yZ m=true->∀W,Bw w W->CC 215 #[v] W fun r w'=>∃u o,r=.returned u/\zW W.heap.size w' u o/\o.map Fx.fld=m/\Bw W w'):=fun hm W hW=>by
  have:=bC v e W (hv.kept hW) hf (xJ (by grind)).2
  grind
 rw [ar] at n;clear am E ay ba ak bb an ar hf;obtain ⟨vp,vc,rfl,_⟩:=hv;obtain ⟨L,hL⟩:=eE (xL d);rw [hL] at s z H B F n au ap cL zL S;clear hL;obtain ⟨xn,xs,xt,xl,xp,xc,xo⟩:=L;simp only [zF,Vx.sl] at s z H B F n au ap cL zL S
 by_cases hs:xs<a
 ·have hs':¬ a<=xs:=by omega
  cases hmay:yZ m with
  | false =>
   have U:=hid (B.o hs);rw [xae hmay] at U;rw [hmay] at n
   rcases z.o with ⟨rfl,hz⟩|⟨b1,k,q,rfl,y0,y1,y2,y3,y4⟩
   ·cases hz;have e0:([]:List Vx).length=0:=rfl;clear H B z J F C hmay;go_enter func167,ntmps167;go_wp2_with fail;refine n.o.mono ?_;rintro r t ⟨rfl,x⟩;have al:=hid (zA s.o s.o.size x.below);clear x n;go_wp2_with fail
    go_ret2
    have:=gF (tick:=tick) T.o U.o (by decide) al.o
    simp_all
   rw [q] at c0;simp only [Vx.sl] at y4;clear H B z J F C hmay;go_enter func167,ntmps167;go_wp2_with fail;refine n.o.mono ?_;rintro r t ⟨rfl,x⟩;have al:=hid (zA s.o s.o.size x.below);clear x n;go_wp2_with fail
   go_ret2
   have:=gF (tick:=tick) T.o U.o (by decide) al.o
   simp_all
  | true =>
  have U:Hid (uI (d.map Vx.ver) a true m=0/\yZ m=true):=by
   have:=B.o hs;rw [xag (by grind)] at this;exact ⟨this,hmay⟩
  have C:=hid (C.o hmay);rw [hmay] at n
  rcases z.o with ⟨hd,hz⟩|⟨b1,k,q,rfl,y0,y1,y2,y3,y4⟩
  ·cases hz;have q:d.length=0:=by rw [hd];rfl
   simp only [Int.zero_add] at F
   rw [q] at c0;clear H B z J hmay hd;go_enter func167,ntmps167;go_wp2_with fail;refine n.o.mono ?_;rintro r t ⟨rfl,x⟩;have K:=x.below;have D:=zA s.o s.o.size K;obtain ⟨l0,l1,l2,l3,l4⟩:=(S.o.on K).cells;simp only [xaJ] at l1 l2 l3 l4;obtain ⟨M,hM⟩:=eE t.heap.size;have ae:w.heap.size<=M:=by have:=D.size;omega
   have O:Hid (Bw w (t.alloc (.cells #[ii 1,iu a,ii tick,.bool true,sc none 0 0] 42))):=D.alloc D.size _;have V:=hid (C.o _ O.o)
   have ad:Hid (wO (t.alloc (.cells #[ii 1,iu a,ii tick,.bool true,sc none 0 0] 42)) M ⟨1,a,tick,true,none,0,[]⟩):=by
    rw [<-hM];exact xab t _
   have be:(t.alloc (.cells #[ii 1,iu a,ii tick,.bool true,sc none 0 0] 42)).heap.size=M+1:=by simp [hM]
   clear x K D n C;go_wp2_with fail;refine V.o.mono ?_;rintro r l ⟨u,o,rfl,Q,ag,N⟩;obtain ⟨j,i,rfl⟩:=xA Q;have G:=ad.o.on N;obtain ⟨m0,m1,m2,m3,m4'⟩:=G.cells;have m4:l.cell? (aa M 4)=some (sc none 0 0):=by simpa [Vx.sl] using m4'
   simp only [xaJ] at m1 m2 m3;have f4:=G.free 4;obtain ⟨y,A⟩:=eE (l.setCell (aa M 4) (sc j o.length i));obtain ⟨S5,hS5⟩:=eE y.heap.size;have Z:Bw w l:=zA O.o O.o.size N;have ab:Bw w y:=by rw [<-A];exact Z.setCell ae _
   have ac:wO y M ⟨1,a,tick,true,j,i,o⟩:=by
    rw [<-A];exact xaa l M 4 _ _ _ G
   have af:zW (M+1) l (sc j o.length i) o:=zM Q (by omega)
   have ai:Hid (zW w.heap.size y (sc j o.length i) o):=by
    rw [<-A];exact zM (zO af (by omega) _) (by omega)
   have aj:=hid ag;have f:=hid (zFA T.o ab ac ae hS5);obtain ⟨q0,q1,q2,q3,X⟩:=f.o.new;have q4:y.cell? (aa M (0+4))=some (sc j o.length i):=X;have c5:=f.o.cell;have z5:=f.o.free;have a5:=f.o.next;have aw:=f.o.ne;rw [q] at c5 a5;clear ac ab X G Q af ag N Z ad V m4' l0 l1 l2 l3 l4;go_upto_region 16 with fail
   try rw [A];clear A m0 m1 m2 m3 m4 f4
   go_region_law (first
    | (refine zAr _ (by rfl) (.tmp 64) (.tmp 66) (by rfl) n0 (sc p (0) ah) d (by rfl) (by rw [<-q];exact f.o.own _) _ ⟨1,a,tick,true,j,i,o⟩ (by rfl) (by exact f.o.lies) aq (f.o.big _) ?_;intro b6 ao w6 Y I P;rw [<-q] at I P;obtain ⟨bc,az,ax⟩:=f.o.then_ _ _ I))
   all_goals
    have R:=hid (F.o _ w6 b6 ao j i o U.o (f.o.bel _) (ai.o.on (zG (zaQ) 1)) aj.o Y I (P.imp id (f.o.high _ _)));rw [q] at R;clear Y I P;go_wp2_with fail
    go_ret2
    exact ⟨xad Ending.returned R.o.1,R.o.2⟩
  rw [q] at c0;simp only [Vx.sl] at y4
  clear H B z J hmay;go_enter func167,ntmps167;go_wp2_with fail;refine n.o.mono ?_;rintro r t ⟨rfl,x⟩;have K:=x.below;have D:=zA s.o s.o.size K;obtain ⟨l0,l1,l2,l3,l4⟩:=(S.o.on K).cells;simp only [xaJ] at l1 l2 l3 l4;obtain ⟨M,hM⟩:=eE t.heap.size;have ae:w.heap.size<=M:=by have:=D.size;omega
  have O:Hid (Bw w (t.alloc (.cells #[ii (xn+1),iu a,ii tick,.bool true,sc none 0 0] 42))):=D.alloc D.size _;have V:=hid (C.o _ O.o)
  have ad:Hid (wO (t.alloc (.cells #[ii (xn+1),iu a,ii tick,.bool true,sc none 0 0] 42)) M ⟨xn+1,a,tick,true,none,0,[]⟩):=by
   rw [<-hM];exact xab t _
  have be:(t.alloc (.cells #[ii (xn+1),iu a,ii tick,.bool true,sc none 0 0] 42)).heap.size=M+1:=by simp [hM]
  clear x K D n C;go_wp2_with fail;refine V.o.mono ?_;rintro r l ⟨u,o,rfl,Q,ag,N⟩;obtain ⟨j,i,rfl⟩:=xA Q;have G:=ad.o.on N;obtain ⟨m0,m1,m2,m3,m4'⟩:=G.cells;have m4:l.cell? (aa M 4)=some (sc none 0 0):=by simpa [Vx.sl] using m4'
  simp only [xaJ] at m1 m2 m3;have f4:=G.free 4;obtain ⟨y,A⟩:=eE (l.setCell (aa M 4) (sc j o.length i));obtain ⟨S5,hS5⟩:=eE y.heap.size;have Z:Bw w l:=zA O.o O.o.size N;have ab:Bw w y:=by rw [<-A];exact Z.setCell ae _
  have ac:wO y M ⟨xn+1,a,tick,true,j,i,o⟩:=by
   rw [<-A];exact xaa l M 4 _ _ _ G
  have af:zW (M+1) l (sc j o.length i) o:=zM Q (by omega)
  have ai:Hid (zW w.heap.size y (sc j o.length i) o):=by
   rw [<-A];exact zM (zO af (by omega) _) (by omega)
  have aj:=hid ag;have f:=hid (zFA T.o ab ac ae hS5);obtain ⟨q0,q1,q2,q3,X⟩:=f.o.new;have q4:y.cell? (aa M (0+4))=some (sc j o.length i):=X;have c5:=f.o.cell;have z5:=f.o.free;have a5:=f.o.next;have aw:=f.o.ne;rw [q] at c5 a5;clear ac ab X G Q af ag N Z ad V m4' l0 l1 l2 l3 l4;go_upto_region 16 with fail
  try rw [A];clear A m0 m1 m2 m3 m4 f4
  go_region_law (first
   | (refine zAr _ (by rfl) (.tmp 64) (.tmp 66) (by rfl) n0 (sc (some (aa b1 0)) (k+1) ah) d (by rfl) (by rw [<-q];exact f.o.own _) _ ⟨xn+1,a,tick,true,j,i,o⟩ (by rfl) (by exact f.o.lies) aq (f.o.big _) ?_;intro b6 ao w6 Y I P;rw [<-q] at I P;obtain ⟨bc,az,ax⟩:=f.o.then_ _ _ I))
  all_goals
   have R:=hid (F.o _ w6 b6 ao j i o U.o (f.o.bel _) (ai.o.on (zG (zaQ) 1)) aj.o Y I (P.imp id (f.o.high _ _)));rw [q] at R;clear Y I P;go_wp2_with fail
   go_ret2
   exact ⟨xad Ending.returned R.o.1,R.o.2⟩
 have hs':a<=xs:=by omega
 have H8:Hid (uI (d.map Vx.ver) a true m=8):=by
  rcases H.o with h|h
  ·omega
  exact h
 rcases z.o with ⟨rfl,hz⟩|⟨b1,k,q,rfl,y0,y1,y2,y3,y4⟩
 ·cases hz;have e0:([]:List Vx).length=0:=rfl;clear H B z J F S n C;go_enter func167,ntmps167;go_wp2_with fail
  go_ret2
  have:=gF (tick:=tick) T.o H8.o (by decide) s.o;exact ⟨xad Ending.returned this.1,this.2⟩
 rw [q] at c0;simp only [Vx.sl] at y4;clear H B z J F S n C;go_enter func167,ntmps167;go_wp2_with fail
 go_ret2
 have:=gF (tick:=tick) T.o H8.o (by decide) s.o
 simp_all
theorem zKH (f:vE n0 w g d vs) (a tick:Int) (c:Bool) (v:Value) (e:List Fx) (b:List Fld) (j:wH w v e) (l:yW e) (k:e.map Fx.fld=b) (h:0<=a) (i:(yF (d.map Vx.ver)).num<2400000000000):CC 167 #[.pointer (some ⟨g,0,none⟩),.int .u64 a,.int .i64 tick,.bool c,v] w fun r m =>
   r=.returned (.tuple #[.int .i64 (zBR (d.map Vx.ver) a c b),.int .i64 (uI (d.map Vx.ver) a c b)])/\qO n0 w g d vs (zBL (d.map Vx.ver) a tick c b) m:=by
 cases c
 ·exact zOL f a tick v b h i
 exact zNF f a tick v e b j l k h i
end
section
variable {l:List Vr} {t:Int} {v:Vr}
structure zSZ (N:Nat) (u:Value) (o:List Vx) (l:List Vr) (W:World):Prop where
 own:KV.Own N W u o
 each:∀x∈o,zW N W x.sl x.o
 apart:zF3 o
 ver:o.map Vx.ver=l
theorem zRD (h:atV l t=some v):v∈l:=by grind [atV]
theorem zBT (h:v∈vK l t):v∈l:=xaK h
end
theorem qL (w:World):CC 159 #[.pointer none] w fun e a=>e=.returned (.slice none 0 0)/\a=w:=by
 go_enter func159,ntmps159
 go_wp2_with fail
 go_ret;exact ⟨rfl,rfl⟩
theorem zCE (t:Int) (w:World):CC 172 #[.slice none 0 0,.int .u64 t] w fun e a=>e=.returned (.int .i64 0)/\Below w.heap.size w a:=nN (sc none 0 0) [] t w (KV.is_nil w) xan (xaE _)
theorem zKS (a:Int) (w:World):CC 171 #[.slice none 0 0,.int .i64 a] w fun e b=>vZ w none e b:=by
 have:=zAa (sc none 0 0) [] a w (KV.is_nil w) (fun x c=>by simp at c) (xaE _)
 grind [jX]
theorem zI7 (w:World):CC 245 #[.slice none 0 0] w fun e a=>vX w [] e a:=zB5 (sc none 0 0) [] w (KV.is_nil w) (fun x b=>by simp at b) (xaE _)
theorem zRI (w:World):CC 107 #[.pointer none] w fun e a=>e=.returned (.int .i64 0)/\a=w:=by
 have b:=hid (qL w);go_enter func107,ntmps107;go_wp2_with fail;refine b.o.mono ?_;rintro e c ⟨rfl,rfl⟩;go_wp2_with fail;go_ret;exact ⟨rfl,rfl⟩
theorem zO5 (t:Int) (w:World):CC 196 #[.pointer none,.int .u64 t] w fun e g=>vX w [] e g:=by
 have k:=hid (qL w);have i:=hid (zCE t w);go_enter func196,ntmps196;go_wp2_with fail;refine k.o.mono ?_;rintro e f ⟨rfl,rfl⟩;go_wp2_with fail;refine i.o.mono ?_;rintro e w2 ⟨rfl,hb2⟩;have h:=hid (zI7 w2);have b:=hid hb2;go_wp2_with fail;refine h.o.mono ?_;rintro e w3 ⟨u,o,rfl,h1,h2,h3,h4,h5⟩;have a:=b.o.size;have d:vX f [] (.returned u) w3:=⟨u,o,rfl,zC.own_weak h1 a,fun x l=>zM (h2 x l) a,h3,h4,zA b.o a h5⟩;obtain ⟨p,c,rfl⟩:=zC.own_shape h1;have j:=hid d;go_wp2_with fail;go_ret;exact j.o
theorem zSN (t:Int) (w:World):CC 118 #[.pointer none,.int .u64 t] w fun e l=>vZ w none e l:=by
 have f:Hid (Below w.heap.size w (w.alloc (.cells #[ii 0,iu 0,ii 0,.bool false,sc none 0 0] 42))):=zaQ;have d:=hid (sJ w);obtain ⟨b,c⟩:∃b,w.alloc (.cells #[ii 0,iu 0,ii 0,.bool false,sc none 0 0] 42)=b:=⟨_,rfl⟩;rw [c] at f d;have i:=hid (qL b);have m:=hid (zCE t b);obtain ⟨N,hN⟩:∃N,w.heap.size=N:=⟨_,rfl⟩;rw [hN] at d f;have u:N+1<=b.heap.size:=by rw [<-c,<-hN];simp
 go_enter func118,ntmps118
 go_wp2_with fail
 (try rw [c]);refine i.out.mono ?_;rintro e z ⟨rfl,rfl⟩;go_wp2_with fail;refine m.out.mono ?_;rintro e w2 ⟨rfl,hb2⟩;have n:=hid (zKS (-1) w2);have g:=hid hb2;have q:=hb2.size;go_wp2_with fail;refine n.out.mono ?_;rintro e w3 ⟨x,rfl,hx,hJ,hq3⟩;have j:=hid hx;have h:=hid (zM hJ (M:=N+1) (by omega));have a:=(d.out.on g.out).on hq3;obtain ⟨q0,q1,q2,q3,q4⟩:=a.cells;have o:=a.free 0;have y:=a.free 1;have r:=a.free 2;have s:=a.free 3;have p:=a.free 4;have k:Hid (Below N w w3):=zA (zA f.out (by omega) g.out) (by omega) hq3;obtain ⟨xn,xs,xt,xl,xp,xc,xo⟩:=x;simp only [zF,Vx.sl] at h ⊢
 try simp only [hN]
 go_wp2_with fail
 exact zaB (v:=.tuple #[.agg #[ii xn,iu xs,ii xt,.bool xl,sc xp xo.length xc],.bool false]) (by simp [results,results118,go_sem,q0,q1,q2,q3,q4]) rfl
  ⟨⟨xn,xs,xt,xl,xp,xc,xo⟩,rfl,j.out,by
   rw [hN];refine zM (N:=N+1) ?_ (by omega);exact zO (zO (zO (zO (zO h.out (by omega) _) (by omega) _) (by omega) _) (by omega) _) (by omega) _,by
   rw [hN];exact ((((k.out.setCell (zaL _) _).setCell (zaL _) _).setCell (zaL _) _).setCell (zaL _) _).setCell (zaL _) _⟩
theorem zPR (w:World):CC 201 #[.pointer none] w fun e k=>vZ w none e k:=by
 have f:Hid (Below w.heap.size w (w.alloc (.cells #[ii 0,iu 0,ii 0,.bool false,sc none 0 0] 42))):=zaQ;have d:=hid (sJ w);obtain ⟨b,c⟩:∃b,w.alloc (.cells #[ii 0,iu 0,ii 0,.bool false,sc none 0 0] 42)=b:=⟨_,rfl⟩;rw [c] at f d;have h:=hid (qL b);have l:=hid (zKS (-1) b);obtain ⟨N,hN⟩:∃N,w.heap.size=N:=⟨_,rfl⟩;rw [hN] at d f;have q:N+1<=b.heap.size:=by rw [<-c,<-hN];simp
 go_enter func201,ntmps201
 go_wp2_with fail
 (try rw [c]);refine h.out.mono ?_;rintro e s ⟨rfl,rfl⟩;go_wp2_with fail;refine l.out.mono ?_;rintro e w3 ⟨x,rfl,hx,hJ,hq3⟩;have i:=hid hx;have g:=hid (zM hJ (M:=N+1) (by omega));have a:=d.out.on hq3;obtain ⟨q0,q1,q2,q3,q4⟩:=a.cells;have m:=a.free 0;have r:=a.free 1;have o:=a.free 2;have p:=a.free 3;have n:=a.free 4;have j:Hid (Below N w w3):=zA f.out (by omega) hq3;obtain ⟨xn,xs,xt,xl,xp,xc,xo⟩:=x;simp only [zF,Vx.sl] at g ⊢
 try simp only [hN]
 go_wp2_with fail
 exact zaB (v:=.tuple #[.agg #[ii xn,iu xs,ii xt,.bool xl,sc xp xo.length xc],.bool false]) (by simp [results,results201,go_sem,q0,q1,q2,q3,q4]) rfl
  ⟨⟨xn,xs,xt,xl,xp,xc,xo⟩,rfl,i.out,by
   rw [hN];refine zM (N:=N+1) ?_ (by omega);exact zO (zO (zO (zO (zO g.out (by omega) _) (by omega) _) (by omega) _) (by omega) _) (by omega) _,by
   rw [hN];exact ((((j.out.setCell (zaL _) _).setCell (zaL _) _).setCell (zaL _) _).setCell (zaL _) _).setCell (zaL _) _⟩
theorem zMY (n:Int) (w:World):CC 200 #[.pointer none,.int .i64 n] w fun e b=>vZ w none e b:=by
 have a:Hid (Bw w (w.alloc (.cells #[ii 0,iu 0,ii 0,.bool false,sc none 0 0] 42))):=zaQ;have c:=hid (qL (w.alloc (.cells #[ii 0,iu 0,ii 0,.bool false,sc none 0 0] 42)));go_enter func200,ntmps200;go_wp2_with fail;refine c.o.mono ?_;rintro e d ⟨rfl,rfl⟩;go_wp2_with fail
 exact zaB (v:=.tuple #[.agg #[ii 0,iu 0,ii 0,.bool false,sc none 0 0],.bool false]) (by simp [results,results200,go_sem]) rfl
  ⟨yB,rfl,rfl,vO _ _,by
   first
   | exact zaQ
   | exact (((((a.o.setCell (zaL _) _).setCell (zaL _) _).setCell (zaL _) _).setCell (zaL _) _).setCell (zaL _) _)⟩
structure Cm where
 g:Nat
 d:List Vx
 vs:Value
def Cm.blk (c:Cm) (b:Nat):Prop:=zBm c.g c.d c.vs b
def fOf (G:Ky->Cm) (D:List zQ) (k:Ky):Option Nat:=if (ofD D k).isEmpty then none else some (G k).g
theorem pP {G:Ky->Cm} {D:List zQ} {k:Ky} (h:ofD D k=[]):fOf G D k=none:=by simp_all [fOf]
theorem uY {G:Ky->Cm} {D:List zQ} {k:Ky} (h:ofD D k≠[]):fOf G D k=some (G k).g:=by grind [fOf]
structure xI (n0:Nat) (W:World) (g m n:Nat) (G:Ky->Cm) (D:List zQ):Prop where
 cell:W.cell? ⟨g,0,none⟩=some (.map (some m))
 bg:n0<=g
 bm:n0<=m
 map:tT W m n (fOf G D)
 prg:∀k,ofD D k≠[]->vE n0 W (G k).g (G k).d (G k).vs/\(G k).d.map Vx.ver=ofD D k
 apart:∀k1 k2,ofD D k1≠[]->ofD D k2≠[]->k1≠k2->∀b,(G k1).blk b->¬ (G k2).blk b
 off:∀k,ofD D k≠[]->∀b,(G k).blk b->b≠g/\b≠m
 ok:OkD D
 key:∀k,ofD D k≠[]->xN k.1 k.2=true
 num:∀k,(yF (ofD D k)).num<=n
 few:zT D<=n
def mJ (g m:Nat) (G:Ky->Cm) (D:List zQ) (b:Nat):Prop:=b=g∨b=m∨∃k,ofD D k≠[]/\(G k).blk b
theorem xI.ne {n0:Nat} {W:World} {g m n:Nat} {G:Ky->Cm} {D:List zQ} (h:xI n0 W g m n G D):g≠m:=h.map.off h.cell
theorem xI.blk {n0:Nat} {W:World} {g m n:Nat} {G:Ky->Cm} {D:List zQ} (h:xI n0 W g m n G D) (b:Nat) (a:mJ g m G D b):n0<=b/\b<W.heap.size:=by
 rcases a with rfl|rfl|⟨k,c,a⟩
 ·exact ⟨h.bg,zI h.cell⟩
 ·exact ⟨h.bm,h.map.lt⟩
 exact (h.prg k c).1.blk b a
theorem xI.fr {P:Nat->Prop} {n0:Nat} {W d:World} {g m n:Nat} {G:Ky->Cm} {D:List zQ} (h:xI n0 W g m n G D) (f:Fr P W d) (c:∀b,mJ g m G D b->¬ P b):xI n0 d g m n G D:=⟨f.cell h.cell (c g (xac rfl)),h.bg,h.bm,h.map.on (f.block m h.map.lt (c m (xaf (xac rfl)))),fun k a=>⟨(h.prg k a).1.fr f fun b e=>c b (xaf (xaf ⟨k,a,e⟩)),(h.prg k a).2⟩,h.apart,h.off,h.ok,h.key,h.num,h.few⟩
theorem xI.on {n0:Nat} {W a:World} {g m n:Nat} {G:Ky->Cm} {D:List zQ} (h:xI n0 W g m n G D) (c:Below W.heap.size W a):xI n0 a g m n G D:=h.fr (P:=fun _=>False) (Fr.of_below c) fun _ _ b=>b
theorem xI.mono {n0:Nat} {W:World} {g m n b:Nat} {G:Ky->Cm} {D:List zQ} (h:xI n0 W g m n G D) (a:n<=b):xI n0 W g m b G D:=⟨h.cell,h.bg,h.bm,h.map.mono a,h.prg,h.apart,h.off,h.ok,h.key,fun k=>by have:=h.num k;omega,zaU h.few a⟩
theorem zM7 {k:Ky} (h:xN k.1 k.2=true):k.1.size<=32/\k.2.size<=32:=by
 unfold xN at h;rw [xaP] at h;have a:=zE0 h.1;have b:=zE3 h.2
 simp_all
theorem key_fit {k:Ky} (h:xN k.1 k.2=true):yO k:=by grind [yO,maxLen,zM7]
theorem zFH (g m:Nat) (W:World) (b:W.cell? ⟨g,0,none⟩=some (.map (some m))):CC 106 #[.pointer (some ⟨g,0,none⟩)] W fun e a=>e=.returned (.map (some m))/\a=W:=by
 go_enter func106,ntmps106
 go_wp2_with fail
 go_ret;exact ⟨rfl,rfl⟩
theorem zRu {W:World} {g m n:Nat} {f:Ky->Option Nat} (i:W.cell? ⟨g,0,none⟩=some (.map (some m))) (c:tT W m n f) (k:Ky) (A:yO k):CC 117 #[.pointer (some ⟨g,0,none⟩),.agg #[.string k.1,.string k.2]] W fun e a=>e=.returned (mkP (f k))/\Below W.heap.size W a:=by
 obtain ⟨V,d⟩:=eE (W.alloc (.cells #[tq k.1,tq k.2] 36));obtain ⟨F,hF⟩:=eE W.z;have b:Bw W V:=by rw [<-d];exact zaQ
 have s:V.heap[F]? = some (oc #[tq k.1,tq k.2] 36):=by rw [<-d,<-hF];exact xab W _
 have t:F<V.z:=(gA s).1;have j:g<W.z:=zI i
 have q:Hid (∀a:World,Below V.drew.z V.drew a->a.cell? (aa g 0)=some (.map (some m))/\a.cell? (aa F 0)=some (tq k.1)/\a.cell? (aa F 1)=some (tq k.2)/\(Instr.lookup 141 (.map (some m)) (.agg #[tq k.1,tq k.2]) false).run prog a=.ok (mkP (f k)) a):=fun a h=>by
  have u:a.heap[g]? = W.heap[g]?:=(h.block g (zaT j b.size)).trans (b.block g j);have w:a.heap[m]? = W.heap[m]?:=(h.block m (zaT c.lt b.size)).trans (b.block m c.lt);have r:a.heap[F]? = some (oc #[tq k.1,tq k.2] 36):=(h.block F t).trans s;refine ⟨(xap u).trans i,by rw [zaC r];rfl,by rw [zaC r];rfl,zBG (c.on w) A⟩
 have v:Hid (∀a:World,a.cell? (aa g 0)=some (.map (some m))->CC 106 #[jp g] a fun e y=>e=.returned (.map (some m))/\y=a):=fun a h=>zFH g m a h
 obtain ⟨p,B⟩:∃p,mkP (f k)=Value.pointer p:=⟨_,rfl⟩;rw [B] at q ⊢;have l:=q.out V.drew (zaR _ _);have x:=hid b;obtain ⟨ka,kb⟩:=k;simp only at *;go_enter func117,ntmps117;go_wp2_with fail
 go_region_held3 (fun a=>a.cell? (aa g 0)=some (.map (some m))/\a.cell? (aa F 0)=some (tq ka)/\a.cell? (aa F 1)=some (tq kb)/\(Instr.lookup 141 (.map (some m)) (.agg #[tq ka,tq kb]) false).run prog a=.ok (.pointer p) a)
  (first|exact l)
  (first|(go_at_call 106;refine (v.o _ l.1).mono ?_;rintro e C ⟨rfl,rfl⟩))
 all_goals
  go_wp2_with fail
  go_ret;rw [<-hF];exact ⟨rfl,x.o.drew⟩
section
variable {n0 g m n:Nat} {W:World} {G:Ky→Cm} {D:List zQ}
section
variable {n0:Nat} {W:World} {g m n:Nat} {G:Ky→Cm} {D:List zQ}
theorem zNe (h:xI n0 W g m n G D) (k:Ky) (t:Int):CC 118 #[mkP (fOf G D k),.int .u64 t] W fun e a=>vZ W (atV (ofD D k) t) e a:=by
 by_cases e:ofD D k=[]
 ·rw [pP e,e];exact zSN t W
 rw [uY e,<-(h.prg k e).2];exact zR3 (h.prg k e).1 t
theorem zAB (h:xI n0 W g m n G D) (k:Ky) (i:Int) (hi:i<=9223372036854775807):CC 200 #[mkP (fOf G D k),.int .i64 i] W fun e a=>vZ W (qB (ofD D k) i) e a:=by
 by_cases e:ofD D k=[]
 ·rw [pP e,e];exact zMY i W
 rw [uY e,<-(h.prg k e).2];exact zHq (h.prg k e).1 i hi
theorem zCq (h:xI n0 W g m n G D) (k:Ky):CC 201 #[mkP (fOf G D k)] W fun e a=>vZ W (ofD D k).getLast? e a:=by
 by_cases e:ofD D k=[]
 ·rw [pP e,e];exact zPR W
 rw [uY e,<-(h.prg k e).2];exact zNc (h.prg k e).1
theorem zGt (h:xI n0 W g m n G D) (k:Ky) (t:Int):CC 196 #[mkP (fOf G D k),.int .u64 t] W fun e a=>vX W (vK (ofD D k) t) e a:=by
 by_cases e:ofD D k=[]
 ·rw [pP e,e];exact zO5 t W
 rw [uY e,<-(h.prg k e).2];exact zME (h.prg k e).1 t
theorem zDy (h:xI n0 W g m n G D) (k:Ky):CC 107 #[mkP (fOf G D k)] W fun e a=>e=.returned (.int .i64 ((ofD D k).length:Int))/\a=W:=by
 by_cases e:ofD D k=[]
 ·rw [pP e,e];exact zRI W
 rw [uY e,<-(h.prg k e).2,zaM];exact zQY (h.prg k e).1
theorem xI.of (h:xI n0 W g m n G D) (k:Ky) (a:yO k):CC 117 #[.pointer (some ⟨g,0,none⟩),.agg #[.string k.1,.string k.2]] W fun e b=>e=.returned (mkP (fOf G D k))/\Below W.heap.size W b:=zRu h.cell h.map k a
end
theorem zJo (h:xI n0 W g m n G D) (k:Ky) (B:yO k) (t:Int):CC 67 #[.pointer (some ⟨g,0,none⟩),.agg #[.string k.1,.string k.2],.int .u64 t] W fun e c=>vZ W (atV (ofD D k) t) e c:=by
 obtain ⟨N,b⟩:=eE W.heap.size;obtain ⟨W1,hW1⟩:=eE (W.alloc (.cells #[tq k.1,tq k.2] 36));have q:W1.heap.size=N+1:=by rw [<-hW1,<-b];simp
 have K:Below N W W1:=by rw [<-hW1,<-b];exact zaQ
 have J:W1.heap[N]? = some (oc #[tq k.1,tq k.2] 36):=by rw [<-hW1,<-b];exact xab W _
 have w:=hid (sJ W1);obtain ⟨a,i⟩:=eE (W1.alloc (.cells #[ii 0,iu 0,ii 0,.bool false,sc none 0 0] 42));have j:Below (N+1) W1 a:=by rw [<-i,<-q];exact zaQ
 have Q:a.heap.size=N+2:=by rw [<-i];simp;omega
 have r:a.heap[N]? = some (oc #[tq k.1,tq k.2] 36):=(j.block N (by omega)).trans J;have u:Below N W a:=K.trans (j.mono (by omega));rw [i,q] at w;have z:xI n0 a g m n G D:=h.on (by rw [b];exact u);have l:=hid (z.of k B);have f:Hid (∀c,Bw a c->CC 118 #[mkP (fOf G D k),iu t] c fun e C=>vZ c (atV (ofD D k) t) e C):=fun c I=>zNe (z.on I) k t
 obtain ⟨p,A⟩:∃p,mkP (fOf G D k)=Value.pointer p:=⟨_,rfl⟩;rw [A] at l f;have U:a.cell? (aa N 0)=some (tq k.1):=cz r;have T:a.cell? (aa N 1)=some (tq k.2):=cz r;have E:=hid u;obtain ⟨o,ho⟩:=eE (atV (ofD D k) t);rw [ho] at f ⊢;obtain ⟨ka,kb⟩:=k;simp only at *;go_enter func67,ntmps67;go_wp2_with fail;refine l.o.mono ?_;rintro e w3 ⟨rfl,hb3⟩;have F:=hid (f.o w3 hb3);have s:=hid hb3;have X:=hb3.size;go_wp2_with fail;refine F.o.mono ?_;rintro e w4 ⟨x,rfl,hx,hJ,hq⟩;have d:=(w.o.on s.o).on hq;obtain ⟨q0,q1,q2,q3,q4⟩:=d.cells;have V:=d.free 0;have R:=d.free 1;have P:=d.free 2;have S:=d.free 3;have O:=d.free 4;have H:=hid hx;have y:=hid (zM hJ (M:=N+2) (by omega));have L:Hid (Below N W w4):=zA (zA E.o (by omega) s.o) (by omega) hq;obtain ⟨xn,xs,xt,xl,xp,xc,xo⟩:=x;simp only [zF,Vx.sl] at y ⊢;go_wp2_with fail
 exact zaB (v:=.tuple #[.agg #[ii xn,iu xs,ii xt,.bool xl,sc xp xo.length xc],.bool o.isSome]) (by simp [results,results67,go_sem,q0,q1,q2,q3,q4]) rfl
  ⟨⟨xn,xs,xt,xl,xp,xc,xo⟩,rfl,H.o,by
   rw [b];refine zM (N:=N+2) ?_ (by omega);exact zO (zO (zO (zO (zO y.o (by omega) _) (by omega) _) (by omega) _) (by omega) _) (by omega) _,by
   rw [b];exact ((((L.o.setCell (by simp) _).setCell (by simp) _).setCell (by simp) _).setCell (by simp) _).setCell (by simp) _⟩
theorem zGw (h:xI n0 W g m n G D) (k:Ky) (B:yO k) (i:Int) (hi:i<=9223372036854775807):CC 148 #[.pointer (some ⟨g,0,none⟩),.agg #[.string k.1,.string k.2],.int .i64 i] W fun e c=>vZ W (qB (ofD D k) i) e c:=by
 obtain ⟨N,b⟩:=eE W.heap.size;obtain ⟨W1,hW1⟩:=eE (W.alloc (.cells #[tq k.1,tq k.2] 36));have r:W1.heap.size=N+1:=by rw [<-hW1,<-b];simp
 have K:Below N W W1:=by rw [<-hW1,<-b];exact zaQ
 have J:W1.heap[N]? = some (oc #[tq k.1,tq k.2] 36):=by rw [<-hW1,<-b];exact xab W _
 have w:=hid (sJ W1);obtain ⟨a,j⟩:=eE (W1.alloc (.cells #[ii 0,iu 0,ii 0,.bool false,sc none 0 0] 42));have l:Below (N+1) W1 a:=by rw [<-j,<-r];exact zaQ
 have Q:a.heap.size=N+2:=by rw [<-j];simp;omega
 have s:a.heap[N]? = some (oc #[tq k.1,tq k.2] 36):=(l.block N (by omega)).trans J;have u:Below N W a:=K.trans (l.mono (by omega));rw [j,r] at w;have z:xI n0 a g m n G D:=h.on (by rw [b];exact u);have q:=hid (z.of k B);have f:Hid (∀c,Bw a c->CC 200 #[mkP (fOf G D k),ii i] c fun e C=>vZ c (qB (ofD D k) i) e C):=fun c I=>zAB (z.on I) k i hi
 obtain ⟨p,A⟩:∃p,mkP (fOf G D k)=Value.pointer p:=⟨_,rfl⟩;rw [A] at q f;have U:a.cell? (aa N 0)=some (tq k.1):=cz s;have T:a.cell? (aa N 1)=some (tq k.2):=cz s;have E:=hid u;obtain ⟨o,ho⟩:=eE (qB (ofD D k) i);rw [ho] at f ⊢;obtain ⟨ka,kb⟩:=k;simp only at *;go_enter func148,ntmps148;go_wp2_with fail;refine q.o.mono ?_;rintro e w3 ⟨rfl,hb3⟩;have F:=hid (f.o w3 hb3);have t:=hid hb3;have X:=hb3.size;go_wp2_with fail;refine F.o.mono ?_;rintro e w4 ⟨x,rfl,hx,hJ,hq⟩;have d:=(w.o.on t.o).on hq;obtain ⟨q0,q1,q2,q3,q4⟩:=d.cells;have V:=d.free 0;have R:=d.free 1;have P:=d.free 2;have S:=d.free 3;have O:=d.free 4;have H:=hid hx;have y:=hid (zM hJ (M:=N+2) (by omega));have L:Hid (Below N W w4):=zA (zA E.o (by omega) t.o) (by omega) hq;obtain ⟨xn,xs,xt,xl,xp,xc,xo⟩:=x;simp only [zF,Vx.sl] at y ⊢;go_wp2_with fail
 exact zaB (v:=.tuple #[.agg #[ii xn,iu xs,ii xt,.bool xl,sc xp xo.length xc],.bool o.isSome]) (by simp [results,results148,go_sem,q0,q1,q2,q3,q4]) rfl
  ⟨⟨xn,xs,xt,xl,xp,xc,xo⟩,rfl,H.o,by
   rw [b];refine zM (N:=N+2) ?_ (by omega);exact zO (zO (zO (zO (zO y.o (by omega) _) (by omega) _) (by omega) _) (by omega) _) (by omega) _,by
   rw [b];exact ((((L.o.setCell (by simp) _).setCell (by simp) _).setCell (by simp) _).setCell (by simp) _).setCell (by simp) _⟩
theorem zLA (h:xI n0 W g m n G D) (k:Ky) (A:yO k):CC 162 #[.pointer (some ⟨g,0,none⟩),.agg #[.string k.1,.string k.2]] W fun e c=>vZ W ((ofD D k).getLast?) e c:=by
 obtain ⟨N,b⟩:=eE W.heap.size;obtain ⟨W1,hW1⟩:=eE (W.alloc (.cells #[tq k.1,tq k.2] 36));have q:W1.heap.size=N+1:=by rw [<-hW1,<-b];simp
 have J:Below N W W1:=by rw [<-hW1,<-b];exact zaQ
 have I:W1.heap[N]? = some (oc #[tq k.1,tq k.2] 36):=by rw [<-hW1,<-b];exact xab W _
 have u:=hid (sJ W1);obtain ⟨a,i⟩:=eE (W1.alloc (.cells #[ii 0,iu 0,ii 0,.bool false,sc none 0 0] 42));have j:Below (N+1) W1 a:=by rw [<-i,<-q];exact zaQ
 have P:a.heap.size=N+2:=by rw [<-i];simp;omega
 have r:a.heap[N]? = some (oc #[tq k.1,tq k.2] 36):=(j.block N (by omega)).trans I;have t:Below N W a:=J.trans (j.mono (by omega));rw [i,q] at u;have y:xI n0 a g m n G D:=h.on (by rw [b];exact t);have l:=hid (y.of k A);have f:Hid (∀c,Bw a c->CC 201 #[mkP (fOf G D k)] c fun e B=>vZ c ((ofD D k).getLast?) e B):=fun c H=>zCq (y.on H) k
 obtain ⟨p,z⟩:∃p,mkP (fOf G D k)=Value.pointer p:=⟨_,rfl⟩;rw [z] at l f;have T:a.cell? (aa N 0)=some (tq k.1):=cz r;have S:a.cell? (aa N 1)=some (tq k.2):=cz r;have C:=hid t;obtain ⟨o,ho⟩:=eE ((ofD D k).getLast?);rw [ho] at f ⊢;obtain ⟨ka,kb⟩:=k;simp only at *;go_enter func162,ntmps162;go_wp2_with fail;refine l.o.mono ?_;rintro e w3 ⟨rfl,hb3⟩;have E:=hid (f.o w3 hb3);have s:=hid hb3;have V:=hb3.size;go_wp2_with fail;refine E.o.mono ?_;rintro e w4 ⟨x,rfl,hx,hJ,hq⟩;have d:=(u.o.on s.o).on hq;obtain ⟨q0,q1,q2,q3,q4⟩:=d.cells;have U:=d.free 0;have Q:=d.free 1;have O:=d.free 2;have R:=d.free 3;have L:=d.free 4;have F:=hid hx;have w:=hid (zM hJ (M:=N+2) (by omega));have K:Hid (Below N W w4):=zA (zA C.o (by omega) s.o) (by omega) hq;obtain ⟨xn,xs,xt,xl,xp,xc,xo⟩:=x;simp only [zF,Vx.sl] at w ⊢;go_wp2_with fail
 exact zaB (v:=.tuple #[.agg #[ii xn,iu xs,ii xt,.bool xl,sc xp xo.length xc],.bool o.isSome]) (by simp [results,results162,go_sem,q0,q1,q2,q3,q4]) rfl
  ⟨⟨xn,xs,xt,xl,xp,xc,xo⟩,rfl,F.o,by
   rw [b];refine zM (N:=N+2) ?_ (by omega);exact zO (zO (zO (zO (zO w.o (by omega) _) (by omega) _) (by omega) _) (by omega) _) (by omega) _,by
   rw [b];exact ((((K.o.setCell (by simp) _).setCell (by simp) _).setCell (by simp) _).setCell (by simp) _).setCell (by simp) _⟩
theorem zC4 (h:xI n0 W g m n G D) (k:Ky) (w:yO k) (t:Int):CC 144 #[.pointer (some ⟨g,0,none⟩),.agg #[.string k.1,.string k.2],.int .u64 t] W fun e a=>vX W (vK (ofD D k) t) e a:=by
 obtain ⟨N,b⟩:=eE W.heap.size;obtain ⟨W1,hW1⟩:=eE (W.alloc (.cells #[tq k.1,tq k.2] 36));have I:W1.heap.size=N+1:=by rw [<-hW1,<-b];simp
 have i:Below N W W1:=by rw [<-hW1,<-b];exact zaQ
 have f:W1.heap[N]? = some (oc #[tq k.1,tq k.2] 36):=by rw [<-hW1,<-b];exact xab W _
 have r:xI n0 W1 g m n G D:=h.on (by rw [b];exact i);have j:=hid (r.of k w);have d:Hid (∀a,Bw W1 a->CC 196 #[mkP (fOf G D k),iu t] a fun e C=>vX a (vK (ofD D k) t) e C):=fun a z=>zGt (r.on z) k t
 obtain ⟨p,v⟩:∃p,mkP (fOf G D k)=Value.pointer p:=⟨_,rfl⟩;rw [v] at j d;have H:W1.cell? (aa N 0)=some (tq k.1):=cz f;have F:W1.cell? (aa N 1)=some (tq k.2):=cz f;have E:=hid i;obtain ⟨l,hl⟩:=eE (vK (ofD D k) t);rw [hl] at d ⊢;obtain ⟨ka,kb⟩:=k;simp only at *;go_enter func144,ntmps144;go_wp2_with fail;refine j.o.mono ?_;rintro e w3 ⟨rfl,hb3⟩;have y:=hid (d.o w3 hb3);have s:=hid hb3;have J:=hb3.size;go_wp2_with fail;refine y.o.mono ?_;rintro e w4 ⟨u,o,rfl,a1,a2,a3,a4,a5⟩;have A:Hid (vX W l (.returned u) w4):=⟨u,o,rfl,zC.own_weak a1 (by omega),fun x B=>zM (a2 x B) (by omega),a3,a4,by rw [b];exact zA (zA E.o (by omega) s.o) (by omega) a5⟩;obtain ⟨q,c,rfl⟩:=zC.own_shape a1;go_wp2_with fail;go_ret;exact A.o
end
section
variable {l:List Vr} {n:Nat}
theorem zKq (h:OkV l):qB l ((l.getLast?.getD zeroV).num-(l.length:Int)+1)=l.head?:=by
 cases l with
 | nil=>rfl
 | cons v r=>grind [gR,zAL]
theorem zIP (h:(yF l).num<=n):(l.getLast?.getD zeroV).num<=n:=h
theorem zNN (h:OkV l):(l.length:Int)<=(l.getLast?.getD zeroV).num:=zEg h
theorem zLr {w:World} {b B:Nat} {v0 v1 v2 v3 v4 u:Value} {o:Nat} (h:w.cell? ⟨B,o,none⟩=some u) (a:B≠b):(((((w.setCell ⟨b,0,none⟩ v0).setCell ⟨b,1,none⟩ v1).setCell ⟨b,2,none⟩ v2).setCell ⟨b,3,none⟩ v3).setCell ⟨b,4,none⟩ v4).cell? ⟨B,o,none⟩=some u:=by
 rw [xap (show _=w.heap[B]? from ?_)]
 ·exact h
 grind [Below.heap_setCell]
theorem zIB {n0:Nat} {W:World} {g m:Nat} {G:Ky->Cm} {D:List zQ} (h:xI n0 W g m n G D) (hn:n<=2400000000000) (k:Ky) (hk:yO k):CC 149 #[.pointer (some ⟨g,0,none⟩),.agg #[.string k.1,.string k.2]] W fun e a=>vZ W (ofD D k).head? e a:=by
 obtain ⟨N,q⟩:=eE W.heap.size;obtain ⟨W1,hW1⟩:=eE (W.alloc (.cells #[tq k.1,tq k.2] 36));have X:W1.heap.size=N+1:=by rw [<-hW1,<-q];simp
 have ab:Below N W W1:=by rw [<-hW1,<-q];exact zaQ
 have af:W1.heap[N]? = some (oc #[tq k.1,tq k.2] 36):=by rw [<-hW1,<-q];exact xab W _
 have F:=hid (sJ W1);obtain ⟨c,J⟩:=eE (W1.alloc (.cells #[ii 0,iu 0,ii 0,.bool false,sc none 0 0] 42));have P:Below (N+1) W1 c:=by rw [<-J,<-X];exact zaQ
 have ap:c.heap.size=N+2:=by rw [<-J];simp;omega
 have E:c.heap[N]? = some (oc #[tq k.1,tq k.2] 36):=(P.block N (by omega)).trans af;have I:Below N W c:=ab.trans (P.mono (by omega));rw [J,X] at F;have u:xI n0 c g m n G D:=h.on (by rw [q];exact I);have O:=hid (u.of k hk);have A:Hid (∀a,Bw c a->CC 201 #[mkP (fOf G D k)] a fun e w=>vZ a (ofD D k).getLast? e w):=fun a i=>zCq (u.on i) k
 have z:Hid (∀a,Bw c a->CC 107 #[mkP (fOf G D k)] a fun e w=>e=.returned (ii ((ofD D k).length:Int))/\w=a):=fun a i=>zDy (u.on i) k
 have Q:=pW h.ok k;have L:=zNN Q;have Z:=zIP (h.num k);have HF:=hid (zKq Q)
 have s:Hid (∀a,Bw c a->CC 200 #[mkP (fOf G D k),ii (((ofD D k).getLast?.getD zeroV).num-((ofD D k).length:Int)+1)] a fun e w=>vZ a (ofD D k).head? e w):=fun a i=>by
  rw [<-HF.o];exact zAB (u.on i) k _ (by omega)
 obtain ⟨p,U⟩:∃p,mkP (fOf G D k)=Value.pointer p:=⟨_,rfl⟩;rw [U] at O A z s;have c0:c.cell? (aa N 0)=some (tq k.1):=cz E;have c1:c.cell? (aa N 1)=some (tq k.2):=cz E;have HB:=hid I;obtain ⟨o,ho⟩:=eE ((ofD D k).head?);obtain ⟨ol,hol⟩:=eE ((ofD D k).getLast?);obtain ⟨len,hlen⟩:∃len:Nat,(ofD D k).length=len:=⟨_,rfl⟩;rw [ho,hol,hlen] at s;rw [hol] at A L Z;rw [hlen] at z L;rw [ho];obtain ⟨ka,kb⟩:=k;simp only at *;clear af E ab P I u U h hk ho hol hlen HF Q;go_enter func149,ntmps149;go_wp2_with fail;refine O.o.mono ?_;rintro e w3 ⟨rfl,hb3⟩;have ac:=hid (A.o w3 hb3);have ag:=hid hb3;have aj:=hb3.size;clear hb3 A O c0 c1;go_wp2_with fail;refine ac.o.mono ?_;rintro e w4 ⟨x,rfl,hx,_,hq⟩;have aq:=hq.size;have R:Hid (Bw c w4):=zA ag.o aj hq;obtain ⟨xn,xs,xt,xl,xp,xc,xo⟩:=x;have ad:xn=(ol.getD zeroV).num:=by rw [<-hx];rfl
 rw [<-ad] at s L Z;simp only [zF,Vx.sl];clear hx hq ac ag ad;obtain ⟨d,H⟩:=eE (w4.alloc (.cells #[ii xn,iu xs,ii xt,.bool xl,sc xp xo.length xc] 42));have C:d.heap[w4.heap.size]? = some (oc #[ii xn,iu xs,ii xt,.bool xl,sc xp xo.length xc] 42):=by rw [<-H];exact xab w4 _
 have ae:Bw c d:=by rw [<-H];exact R.o.alloc (by omega) _
 obtain ⟨r,V⟩:=eE w4.heap.size;rw [V] at C;have ao:N+2<=r:=by omega
 have al:r<d.heap.size:=(gA C).1
 have KS:Hid (∀a,Below d.drew.heap.size d.drew a->a.cell? (aa r 0)=some (ii xn)):=fun a i=>by
  rw [zaC ((i.block r al).trans C)];rfl
 have q0:=KS.out d.drew (zaR _ _);have t:Bw c d.drew:=ae.drew;have ah:=hid (z.o d.drew t);have an:=hid (s.o d.drew t);have ai:=hid (F.o.on t);have ak:Hid (Below N W d.drew):=zA HB.o (by omega) t;clear z s F HB R ae t C;go_wp2_with fail;(try rw [V]);(try rw [H]);refine tkb (S:=fun a=>a.cell? (aa r 0)=some (ii xn)) q0 fun l=>?_;refine tkv4 0 1 2 3 (.pointer p) (jp r) (ii xn) (.pointer p) l ?_;simp only [Act.put,sz];refine tkc 4 fun K f=>?_
 go_simp
 refine ah.o.mono ?_;rintro e w5 ⟨rfl,rfl⟩;go_wp2_with fail;refine f.out _ _ q0 (fun l=>?_);clear f K
 try simp only [Act.put,sz]
 have e1:IntKind.i64.wrap (xn-(len:Int))=xn-len:=by rw [xam];omega
 have e2:IntKind.i64.wrap (xn-(len:Int)+1)=xn-len+1:=by rw [xam];omega
 refine tkv2 5 6 (ii (xn-len)) (ii (xn-len+1)) l ?_;simp only [Act.put,sz];clear e1 e2;refine tkc 7 fun K f=>?_
 go_simp
 refine an.o.mono ?_;rintro e w6 ⟨y,rfl,Y,T,B⟩;have q6:=KS.out w6 B;have j:=ai.o.on B;obtain ⟨z0,z1,z2,z3,z4⟩:=j.cells;have r0:=j.free 0;have r1:=j.free 1;have r2:=j.free 2;have r3:=j.free 3;have r4:=j.free 4;have HY:=hid Y;have HJ:=hid (zM T (M:=N+2) (by show N+2<=d.heap.size;omega));have am:Hid (Below N W w6):=zA ak.o (by show N<=d.heap.size;omega) B;obtain ⟨yn,ys,yt,yl,yp,yc,yo⟩:=y;simp only [zF,Vx.sl] at HJ ⊢;have q7:=zLr (b:=N+1) (v0:=ii yn) (v1:=iu ys) (v2:=ii yt) (v3:=.bool yl) (v4:=sc yp yo.length yc) q6 (by omega);clear Y T B j;go_wp2_with fail;refine f.out _ _ q6 (fun l=>?_);clear f K
 try simp only [Act.put,sz]
 refine tkv2 8 9 (.agg #[ii yn,iu ys,ii yt,.bool yl,sc yp yo.length yc]) (.bool o.isSome) l ?_;simp only [Act.put,sz];refine tkc 10 fun K f=>?_
 go_simp
 refine f.out _ _ q7 (fun l=>?_);clear f K
 try simp only [Act.put,sz]
 refine tkv 11 (.bool o.isSome) l ?_;simp only [Act.put,sz];refine tkd ?_;go_wp2_with fail
 exact zaB (v:=.tuple #[.agg #[ii yn,iu ys,ii yt,.bool yl,sc yp yo.length yc],.bool o.isSome]) (by simp [results,results149,go_sem,z0,z1,z2,z3,z4]) rfl
  ⟨⟨yn,ys,yt,yl,yp,yc,yo⟩,rfl,HY.o,by
   rw [q];refine zM (N:=N+2) ?_ (by omega);exact zO (zO (zO (zO (zO HJ.o (by omega) _) (by omega) _) (by omega) _) (by omega) _) (by omega) _,by
   rw [q];exact ((((am.o.setCell (by simp) _).setCell (by simp) _).setCell (by simp) _).setCell (by simp) _).setCell (by simp) _⟩
end
section
variable {n0 g m n n':Nat} {G:Ky→Cm} {D:List zQ}
theorem vE.weak {c:Nat} {w:World} {d:List Vx} {e:Value} (h:vE n0 w g d e) (a:c<=n0):vE c w g d e:=⟨h.cell,h.free,zaU a h.base,zC.own_weak h.row a,fun x b=>⟨zM (h.each x b).1 a,(h.each x b).2⟩,h.off,h.ok,h.top⟩
def cF (n0:Nat) (W:World) (g m:Nat) (G:Ky->Cm) (D:List zQ) (n':Nat) (D':List zQ) (w':World):Prop:=∃G',xI n0 w' g m n' G' D'/\(∀b,mJ g m G' D' b->mJ g m G D b∨W.heap.size<=b)/\Fr (mJ g m G D) W w'
theorem cF.same {W b:World} (h:xI n0 W g m n G D) (a:Below W.heap.size W b) (c:n<=n'):cF n0 W g m G D n' D b:=⟨G,(h.on a).mono c,fun _ a=>xac a,Fr.of_below a⟩
theorem zJl {k:Ky}:∀{D:List zQ},OkD D->ofD D k≠[]->sL k (ofD D k) D=D
 | [],_,h=>absurd rfl h
 | r::d,ho,h=>by
  have b:=ho.rise;rw [xaZ] at b;unfold sL
  by_cases e:r.1=k
  ·have a:ofD (r::d) k=r.2:=by unfold ofD;rw [xae e]
   rw [xag (by rw [<-e,wX.irr];simp),xae e,a,<-e]
  have a:ofD (r::d) k=ofD d k:=by conv=>lhs;unfold ofD;rw [xag e]
  rw [a] at h ⊢;have i:k∈d.map Prod.fst:=(wI ho.tail k).2 h;have c:yR r.1 k=true:=(List.pairwise_cons.1 b).1 k i;rw [xag,xag e,zJl ho.tail h];intro f;have:=wX.tr _ _ _ c f;rw [wX.irr] at this
  cases this
theorem zC5 {u w4 A:World} (h:xI n0 u g m n G D) (k:Ky) (f:Cm)
  (hc:(ofD D k≠[]/\f=G k)∨(ofD D k=[]/\∀b,f.blk b->¬ mJ g m G D b)) {l':List Vr} (ht:qO n0 u f.g f.d f.vs l' w4) (f5:Fr (fun b=>b=m) w4 A)
  (hm:tT A m n' (fun y=>if y=k then some f.g else fOf G D y)) (hl:l'≠[]) (hk:xN k.1 k.2=true) (hok:OkV l') (hnum:(yF l').num<=n') (hfew:zT (sL k l' D)<=n') (hn:n<=n'):∃p,xI n0 A g m n' p (sL k l' D)/\(∀b,mJ g m p (sL k l' D) b->mJ g m G D b∨f.blk b∨u.heap.size<=b)/\Fr (fun b=>b=m∨f.blk b) u A:=by
 obtain ⟨F,E,N,O,J,Q⟩:=ht;have R:=h.map.lt;have M:=zI h.cell;have M:g<u.heap.size:=M
 have K:∀b,f.blk b->b≠g/\b≠m/\∀y,y≠k->ofD D y≠[]->¬ (G y).blk b:=by
  intro b a
  rcases hc with ⟨j,rfl⟩|⟨j,t⟩
  ·exact ⟨(h.off k j b a).1,(h.off k j b a).2,fun y c z=>h.apart k y j z (Ne.symm c) b a⟩
  have:=t b a;exact ⟨fun e=>this (xac e),fun e=>this (xaf (xac e)),fun y _ z H=>this (xaf (xaf ⟨y,z,H⟩))⟩
 have v:∀b,zBm f.g F E b->b≠g/\b≠m/\∀y,y≠k->ofD D y≠[]->¬ (G y).blk b:=by
  intro b a
  rcases J b a with a|a
  ·exact K b a
  refine ⟨fun e=>by omega,fun e=>by omega,fun y _ z H=>?_⟩;have:=((h.prg y z).1.blk b H).2;omega
 have C:Fr (fun b=>b=m∨f.blk b) u A:=Fr.then (Q.mono fun b a=>xaf a) f5 fun b a=>xac (xac a)
 have I:∀y,ofD (sL k l' D) y=if y=k then l' else ofD D y:=fun y=>dB k y l' D
 have i:∀y,y≠k->ofD (sL k l' D) y=ofD D y:=fun y c=>by rw [I,xag c]
 have P:ofD (sL k l' D) k=l':=by rw [I,xae rfl]
 obtain ⟨p,w,r⟩:∃p:Ky->Cm,p k=⟨f.g,F,E⟩/\∀y,y≠k->p y=G y:=⟨fun y=>if y=k then ⟨f.g,F,E⟩ else G y,xae rfl,fun y c=>xag c⟩;refine ⟨p,?_,?_,C⟩
 ·refine ⟨C.cell h.cell ?_,h.bg,h.bm,hm.congr fun y _=>?_,fun y c=>?_,fun s l j t L b B q=>?_,fun y c b a=>?_,zKB h.ok k hok hl,fun y c=>?_,fun y=>?_,hfew⟩
  ·rintro (e|e)
   ·exact h.ne e
   grind
  ·grind [fOf]
  ·by_cases e:y=k
   ·subst e;rw [w,P];exact ⟨N.fr f5 fun b a=>(v b a).2.1,O⟩
   rw [r y e,i y e];rw [i y e] at c;refine ⟨(h.prg y c).1.fr C fun b a x=>?_,(h.prg y c).2⟩
   rcases x with x|x
   ·exact (h.off y c b a).2 x
   exact (K b x).2.2 y e c a
  ·by_cases e1:s=k
   ·subst e1;have o:l≠s:=Ne.symm L;rw [w] at B;rw [r l o] at q;rw [i l o] at t;exact (v b B).2.2 l o t q
   rw [r s e1] at B;rw [i s e1] at j
   by_cases o:l=k
   ·subst o;rw [w] at q;exact (v b q).2.2 s e1 j B
   rw [r l o] at q;rw [i l o] at t;exact h.apart s l j t L b B q
  ·by_cases e:y=k
   ·subst e;rw [w] at a;exact ⟨(v b a).1,(v b a).2.1⟩
   rw [r y e] at a;rw [i y e] at c;exact h.off y c b a
  ·by_cases e:y=k
   ·grind
   rw [i y e] at c;exact h.key y c
  by_cases e:y=k
  ·grind
  rw [i y e];have:=h.num y;omega
 rintro b (rfl|rfl|⟨y,c,a⟩)
 ·exact xac (xac rfl)
 ·exact xac (xaf (xac rfl))
 by_cases e:y=k
 ·subst e;rw [w] at a
  rcases J b a with a|a
  ·exact xaf (xac a)
  omega
 rw [r y e] at a;rw [i y e] at c;exact xac (xaf (xaf ⟨y,c,a⟩))
end
section
variable {n0 g m n:Nat} {W wc w4:World} {G:Ky→Cm} {D:List zQ}
def wT (D:List zQ) (k:Ky) (stamp:Int) (live:Bool) (val:List Fld):Int:=if xN k.1 k.2=true then uI (ofD D k) stamp live val else 2
def zC7 (D:List zQ) (k:Ky) (stamp:Int) (live:Bool) (val:List Fld):Int:=if wT D k stamp live val=0 then (yF (ofD D k)).num+1 else 0
def nI (D:List zQ) (k:Ky) (stamp tick:Int) (live:Bool) (val:List Fld):List zQ:=if wT D k stamp live val=0 then sL k (tY (ofD D k) stamp tick live val) D else D
theorem zGl (l:List Vr) (b tick:Int) (c:Bool) (a:List Fld):(tY l b tick c a).length=l.length+1:=by unfold tY;simp
theorem zJd (l:List Vr) (b tick:Int) (c:Bool) (a:List Fld):tY l b tick c a≠[]:=by unfold tY;simp
theorem zOC (l:List Vr) (b tick:Int) (c:Bool) (a:List Fld):(yF (tY l b tick c a)).num=(yF l).num+1:=by unfold tY;rw [zHi]
theorem zG4 {f:World} (h:xI n0 W g m n G D) (i:Below W.heap.size W wc) (k:Ky) (c:Cm) (j:xN k.1 k.2=true)
  (hc:(ofD D k≠[]/\c=G k)∨(ofD D k=[]/\∀b,c.blk b->W.heap.size<=b)) {stamp tick:Int} {live:Bool} {val:List Fld} (ht:qO n0 wc c.g c.d c.vs (zBL (ofD D k) stamp tick live val) w4) (hcode:uI (ofD D k) stamp live val=0)
  (f5:Fr (fun b=>b=m) w4 f) (hm:tT f m (n+1) (fun y=>if y=k then some c.g else fOf G D y)):cF n0 W g m G D (n+1) (nI D k stamp tick live val) f:=by
 have q:zBL (ofD D k) stamp tick live val=tY (ofD D k) stamp tick live val:=xae hcode;rw [q] at ht
 have r:OkV (tY (ofD D k) stamp tick live val):=by
  obtain ⟨C,K,l,o,_⟩:=ht;rw [<-o];exact l.ok
 have A:wT D k stamp live val=0:=by unfold wT;rw [xae j];exact hcode
 have t:=pY k (tY (ofD D k) stamp tick live val) h.ok;rw [zGl] at t;have J:=h.num k;have I:=h.few;obtain ⟨s,p,E,u⟩:=zC5 (h.on i) k c (hc.imp id fun ⟨a,b⟩=>⟨a,fun x H w=>by have:=(h.blk x w).2;grind⟩) ht f5 hm (zJd _ _ _ _ _) j r (by rw [zOC];omega) (by omega) (by omega);have B:=i.size
 have F:∀b,c.blk b->mJ g m G D b∨W.z<=b:=fun b e=>by
  rcases hc with ⟨a,rfl⟩|⟨_,a⟩
  ·exact xac (xaf (xaf ⟨k,a,e⟩))
  grind
 have v:nI D k stamp tick live val=sL k (tY (ofD D k) stamp tick live val) D:=xae A;rw [v];refine ⟨s,p,fun b e=>?_,Fr.then (Fr.of_below i) u fun b e=>?_⟩
 ·grind
 rcases e with rfl|e
 ·exact xac (xaf (xac rfl))
 grind
theorem zGj (h:xI n0 W g m n G D) (c:Below W.heap.size W wc) (k:Ky) (i:Cm) (o:xN k.1 k.2=true)
  (hc:(ofD D k≠[]/\i=G k)∨(ofD D k=[]/\∀b,i.blk b->W.heap.size<=b)) {stamp tick:Int} {live:Bool} {val:List Fld} (ht:qO n0 wc i.g i.d i.vs (zBL (ofD D k) stamp tick live val) w4) (hcode:uI (ofD D k) stamp live val≠0):cF n0 W g m G D (n+1) (nI D k stamp tick live val) w4:=by
 have s:zBL (ofD D k) stamp tick live val=ofD D k:=xag hcode;rw [s] at ht;have C:wT D k stamp live val≠0:=by unfold wT;rw [xae o];exact hcode
 have B:nI D k stamp tick live val=D:=xag C;rw [B];have l:=c.size
 rcases hc with ⟨a,rfl⟩|⟨a,b⟩
 ·have w:OkV (ofD D k):=pW h.ok k;have F:=pY k (ofD D k) h.ok;have I:=h.num k;have H:=h.few
  have t:w4.heap[m]? = wc.heap[m]?:=by
   obtain ⟨u,E,_,_,_,f⟩:=ht;exact f.block m (zaT h.map.lt l) fun v=>(h.off k a m v).2 rfl
  have r:tT w4 m (n+1) (fun y=>if y=k then some (G k).g else fOf G D y):=(((h.map.on (c.block m h.map.lt)).on t).mono (xax n)).congr fun y _=>by
   by_cases e:y=k
   ·subst e;rw [xae rfl,uY a]
   grind
  obtain ⟨z,q,p,A⟩:=zC5 (h.on c) k (G k) (xac ⟨a,rfl⟩) ht (Fr.refl _ _) r a o w (by omega) (by omega) (by omega);rw [zJl h.ok a] at q p;refine ⟨z,q,fun x j=>?_,Fr.then (Fr.of_below c) A fun x j=>?_⟩
  ·rcases p x j with h|h|h
   ·grind
   ·exact xac (xaf (xaf ⟨k,a,h⟩))
   omega
  rcases j with rfl|j
  ·exact xac (xaf (xac rfl))
  exact xac (xaf (xaf ⟨k,a,j⟩))
 obtain ⟨u,E,_,_,_,f⟩:=ht;exact cF.same h (c.trans (f.below l b)) (xax n)
theorem zN4 (h:xI n0 W g m n G D) (hn:n<2400000000000) (ba:n0<=W.heap.size) (k:Ky) (Z:yO k) (c tick:Int) (i:Bool) (v:Value) (e:List Fx) (j:List Fld) (hv:wH W v e) (hf:yW e) (aq:e.map Fx.fld=j) (h0:0<=c):CC 114 #[.pointer (some ⟨g,0,none⟩),.agg #[.string k.1,.string k.2],.int .u64 c,.int .i64 tick,.bool i,v] W fun r a =>
   r=.returned (.tuple #[.int .i64 (zC7 D k c i j),.int .i64 (wT D k c i j)])/\cF n0 W g m G D (n+1) (nI D k c tick i j) a:=by
 obtain ⟨N,hN⟩:=eE W.heap.size;obtain ⟨W1,hW1⟩:=eE (W.alloc (.cells #[tq k.1,tq k.2] 36));have ax:W1.heap.size=N+1:=by rw [<-hW1,<-hN];simp
 have az:Below N W W1:=by rw [<-hW1,<-hN];exact zaQ
 have av:W1.heap[N]? = some (oc #[tq k.1,tq k.2] 36):=by rw [<-hW1,<-hN];exact xab W _
 have X:Hid (∀a,Bw W1 a->a.cell? (aa N 0)=some (tq k.1)/\a.cell? (aa N 1)=some (tq k.2)):=fun a l=>by
  have:=(l.block N (by omega)).trans av;exact ⟨by rw [zaC this];rfl,by rw [zaC this];rfl⟩
 have w:Hid (∀a,Bw W1 a->Bw W a):=fun a l=>by grind [zA]
 have HK:=hid (zBp k.1 k.2 W1 Z.1 Z.2);have O:Hid (∀a,Bw W1 a->CC 117 #[jp g,.agg #[tq k.1,tq k.2]] a fun e u=>e=.returned (mkP (fOf G D k))/\Bw a u):=fun a l=>(h.on (w.out a l)).of k Z
 have H:=hid h;have HV:=hid hv;obtain ⟨M,L⟩:=X.out W1 (zaR _ _);have ay:=h.num k
 cases hkb:xN k.1 k.2 with
 | false =>
  have y:Hid (wT D k c i j=2/\zC7 D k c i j=0/\nI D k c tick i j=D):=by
   have z:wT D k c i j=2:=by unfold wT;rw [hkb];rfl
   refine ⟨z,?_,?_⟩
   ·grind [zC7]
   grind [nI]
  rw [y.o.1,y.o.2.1,y.o.2.2];rw [hkb] at HK;obtain ⟨t,s⟩:=k;simp only at *;go_enter func114,ntmps114;go_wp2_with fail;refine HK.o.mono ?_;rintro e u ⟨rfl,hb2⟩;have A:=hid (w.out u hb2);go_wp2_with fail
  go_ret2
  exact ⟨rfl,cF.same H.o A.o (xax n)⟩
 | true =>
 rw [hkb] at HK;have ad:Hid (wT D k c i j=uI (ofD D k) c i j):=by show _=_;unfold wT;rw [hkb];rfl
 have ae:=hid hkb;have ar:=h.cell;have ac:g<W.heap.size:=zI ar;have af:=h.map.lt;have KG:Hid (∀a:World,a.heap[g]? = W.heap[g]?->a.cell? (aa g 0)=some (.map (some m))):=fun a he=>(xap he).trans ar
 by_cases hof:ofD D k=[]
 ·skip
  have T:Hid (∀a wc,Bw W1 a->vE a.heap.size wc a.heap.size [] (sc none 0 0)->Bw a wc->CC 167 #[jp a.heap.size,iu c,ii tick,.bool i,v] wc fun r u =>
    r=.returned (.tuple #[ii (zBR (ofD D k) c i j),ii (uI (ofD D k) c i j)])/\qO n0 wc a.heap.size [] (sc none 0 0) (zBL (ofD D k) c tick i j) u):=fun a wc l hp Y=>by
   have hb':=w.out a l;have hs':=hb'.size;have:=zKH (hp.weak (show n0<=a.heap.size by omega)) c tick i v e j ((HV.o.kept hb').kept Y) hf aq h0 (by show (0:Int)<_;omega)
   grind
  have F:Hid (∀a:World,Bw W1 a->∀b,zBm a.heap.size [] (sc none 0 0) b->b=a.heap.size/\N+1<=b):=fun a l b hx=>by
   have hs':=l.size
   rcases hx with rfl|hx|⟨x,hx,_⟩
   ·exact ⟨rfl,by omega⟩
   ·cases hx
   simp at hx
  rw [pP hof] at O;simp only [mkP,Option.map_none] at O;obtain ⟨C,B⟩:=eE (uI (ofD D k) c i j);obtain ⟨pn,hpn⟩:=eE (zBR (ofD D k) c i j);rw [B,hpn] at T
  by_cases hz:C=0
  ·have ak:(C != 0)=false:=by rw [hz];rfl
   have y:Hid (wT D k c i j=0/\zC7 D k c i j=pn):=by
    have z:wT D k c i j=0:=by rw [ad.o,B,hz]
    refine ⟨z,?_⟩;unfold zC7;rw [xae z,<-hpn];unfold zBR;rw [B,hz,xae rfl]
   have HZ:Hid (uI (ofD D k) c i j=0):=B.trans hz;rw [y.o.1,y.o.2];obtain ⟨t,s⟩:=k;simp only at *;go_enter func114,ntmps114;go_wp2_with fail;refine HK.o.mono ?_;rintro e u ⟨rfl,hb2⟩;obtain ⟨M,L⟩:=X.out u hb2;have R:=hid (O.o u hb2);have A:=hid hb2;go_wp2_with fail;refine R.o.mono ?_;rintro e w3 ⟨rfl,hb3⟩;have p:Hid (Bw W1 w3):=zA A.o A.o.size hb3;have ao:=hid (zKG w3);go_wp2_with fail;refine ao.o.mono ?_;rintro e wc ⟨rfl,hpc,Y⟩;have I:Hid (Bw W1 wc):=zA p.o p.o.size Y;have U:=hid (T.o w3 wc p.o hpc Y);have aw:=p.o.size;go_wp2_with fail;refine U.o.mono ?_;rintro e w4 ⟨rfl,ht⟩;have Q:=hid ht;obtain ⟨M,L⟩:=X.out wc I.o;have V:Fr (zBm w3.heap.size [] (sc none 0 0)) wc w4:=by obtain ⟨_,_,_,_,_,f⟩:=ht;exact f
   have ab:w4.heap[N]? = wc.heap[N]?:=V.block N (by have:=I.o.size;omega) (fun l=>by have:=(F.o w3 p.o N l).2;omega);have ag:w4.heap[g]? = W.heap[g]?:=(V.block g (zaT ac (w.out _ I.o).size) (fun l=>by have:=(F.o w3 p.o g l).2;omega)).trans ((w.out _ I.o).block g ac);have ah:w4.heap[m]? = W.heap[m]?:=(V.block m (zaT af (w.out _ I.o).size) (fun l=>by have:=(F.o w3 p.o m l).2;omega)).trans ((w.out _ I.o).block m af);have d0:w4.cell? (aa N 0)=some (tq t):=(xap ab).trans M;have d1:w4.cell? (aa N 1)=some (tq s):=(xap ab).trans L;have d2:=KG.out w4 ag;obtain ⟨E,an,am,aj⟩:=zGg (W:=w4.drew) (H.o.map.on ah) (k:=(t,s)) Z (by unfold maxLen;omega) w3.heap.size;simp only [nH,mkP,xbJ] at an;have ai:=hid am;have al:=hid aj;go_wp2_with fail;refine tkb (S:=fun a=>a.cell? (aa g 0)=some (.map (some m))/\a.cell? (aa N 0)=some (tq t)/\a.cell? (aa N 1)=some (tq s)) ⟨d2,d0,d1⟩ fun hA=>?_;refine tkv4 0 1 2 3 (jp g) (jp g) (jp g) (.map (some m)) hA ?_;simp only [Act.put,sz];refine tkv2 4 5 (.agg #[tq t,tq s]) (jp w3.heap.size) hA ?_;simp only [Act.put,sz];refine tkc 6 fun K hK=>?_
   go_simp
   have J:Fr (fun b=>b=m) w4 E:=by
    have q:=Fr.of_grown (P:=fun b=>b=m) al.o fun k Z=>by grind
    exact ⟨q.os,q.tape,q.output,q.size,q.block⟩
   have q5:E.cell? (aa g 0)=some (.map (some m))/\E.cell? (aa N 0)=some (tq t)/\E.cell? (aa N 1)=some (tq s) :=
    ⟨J.cell d2 H.o.ne,J.cell d0 (by grind),J.cell d1 (by grind)⟩
   refine hK.out _ _ q5 (fun hA=>?_)
   try simp only [Act.put,sz]
   refine tkd ?_;go_wp2_with fail
   go_ret2
   exact ⟨rfl,zG4 H.o (w.out _ I.o) (t,s) ⟨w3.heap.size,[],sc none 0 0⟩ ae.o (xaf ⟨hof,fun b l=>by have:=(F.o w3 p.o b l).2;omega⟩) Q.o HZ.o J ai.o⟩
  have ak:(C != 0)=true:=by simpa using hz
  have y:Hid (wT D k c i j=C/\zC7 D k c i j=0):=by
   have z:wT D k c i j=C:=by rw [ad.o,B]
   refine ⟨z,?_⟩;unfold zC7;rw [z,xag hz]
  have HZ:Hid (uI (ofD D k) c i j≠0):=by show _≠_;rw [B];exact hz
  rw [y.o.1,y.o.2];obtain ⟨t,s⟩:=k;simp only at *;go_enter func114,ntmps114;go_wp2_with fail;refine HK.o.mono ?_;rintro e u ⟨rfl,hb2⟩;obtain ⟨M,L⟩:=X.out u hb2;have R:=hid (O.o u hb2);have A:=hid hb2;go_wp2_with fail;refine R.o.mono ?_;rintro e w3 ⟨rfl,hb3⟩;have p:Hid (Bw W1 w3):=zA A.o A.o.size hb3;have ao:=hid (zKG w3);go_wp2_with fail;refine ao.o.mono ?_;rintro e wc ⟨rfl,hpc,Y⟩;have I:Hid (Bw W1 wc):=zA p.o p.o.size Y;have U:=hid (T.o w3 wc p.o hpc Y);have aw:=p.o.size;go_wp2_with fail;refine U.o.mono ?_;rintro e w4 ⟨rfl,ht⟩;have Q:=hid ht;go_wp2_with fail
  go_ret2
  exact ⟨rfl,zGj H.o (w.out _ I.o) (t,s) ⟨w3.heap.size,[],sc none 0 0⟩ ae.o (xaf ⟨hof,fun b l=>by have:=(F.o w3 p.o b l).2;omega⟩) Q.o HZ.o⟩
 skip
 have au:=h.prg k hof;have ap:=h.off k hof
 have T:Hid (∀a,Bw W1 a->CC 167 #[jp ((G k).g),iu c,ii tick,.bool i,v] a fun r u =>
   r=.returned (.tuple #[ii (zBR (ofD D k) c i j),ii (uI (ofD D k) c i j)])/\qO n0 a (G k).g (G k).d (G k).vs (zBL (ofD D k) c tick i j) u):=fun a l=>by
  have hb':=w.out a l;have:=zKH (au.1.on hb') c tick i v e j (HV.o.kept hb') hf aq h0 (by grind)
  grind
 have F:Hid (∀b,(G k).blk b->b≠g/\b≠m/\b<N):=fun b l=>⟨(ap b l).1,(ap b l).2,by rw [<-hN];exact (au.1.blk b l).2⟩
 rw [uY hof] at O;simp only [mkP,xbJ] at O;obtain ⟨C,B⟩:=eE (uI (ofD D k) c i j);obtain ⟨pn,hpn⟩:=eE (zBR (ofD D k) c i j);rw [B,hpn] at T
 by_cases hz:C=0
 ·have ak:(C != 0)=false:=by rw [hz];rfl
  have y:Hid (wT D k c i j=0/\zC7 D k c i j=pn):=by
   have z:wT D k c i j=0:=by rw [ad.o,B,hz]
   refine ⟨z,?_⟩;unfold zC7;rw [xae z,<-hpn];unfold zBR;rw [B,hz,xae rfl]
  have HZ:Hid (uI (ofD D k) c i j=0):=B.trans hz;rw [y.o.1,y.o.2];obtain ⟨t,s⟩:=k;simp only at *;go_enter func114,ntmps114;go_wp2_with fail;refine HK.o.mono ?_;rintro e u ⟨rfl,hb2⟩;obtain ⟨M,L⟩:=X.out u hb2;have R:=hid (O.o u hb2);have A:=hid hb2;go_wp2_with fail;refine R.o.mono ?_;rintro e w3 ⟨rfl,hb3⟩;have p:Hid (Bw W1 w3):=zA A.o A.o.size hb3;have U:=hid (T.o w3 p.o);go_wp2_with fail;refine U.o.mono ?_;rintro e w4 ⟨rfl,ht⟩;have Q:=hid ht;obtain ⟨M,L⟩:=X.out w3 p.o;have V:Fr (zBm (G (t,s)).g (G (t,s)).d (G (t,s)).vs) w3 w4:=by obtain ⟨_,_,_,_,_,f⟩:=ht;exact f
  have ab:w4.heap[N]? = w3.heap[N]?:=V.block N (by have:=p.o.size;omega) (fun l=>by have:=(F.o N l).2.2;omega);have ag:w4.heap[g]? = W.heap[g]?:=(V.block g (zaT ac (w.out _ p.o).size) (fun l=>(F.o g l).1 rfl)).trans ((w.out _ p.o).block g ac);have ah:w4.heap[m]? = W.heap[m]?:=(V.block m (zaT af (w.out _ p.o).size) (fun l=>(F.o m l).2.1 rfl)).trans ((w.out _ p.o).block m af);have d0:w4.cell? (aa N 0)=some (tq t):=(xap ab).trans M;have d1:w4.cell? (aa N 1)=some (tq s):=(xap ab).trans L;have d2:=KG.out w4 ag;obtain ⟨E,an,am,aj⟩:=zGg (W:=w4.drew) (H.o.map.on ah) (k:=(t,s)) Z (by unfold maxLen;omega) (G (t,s)).g;simp only [nH,mkP,xbJ] at an;have ai:=hid am;have al:=hid aj;go_wp2_with fail;refine tkb (S:=fun a=>a.cell? (aa g 0)=some (.map (some m))/\a.cell? (aa N 0)=some (tq t)/\a.cell? (aa N 1)=some (tq s)) ⟨d2,d0,d1⟩ fun hA=>?_;refine tkv4 0 1 2 3 (jp g) (jp g) (jp g) (.map (some m)) hA ?_;simp only [Act.put,sz];refine tkv2 4 5 (.agg #[tq t,tq s]) (.pointer (some ⟨(G (t,s)).g,0,none⟩)) hA ?_;simp only [Act.put,sz];refine tkc 6 fun K hK=>?_
  go_simp
  have J:Fr (fun b=>b=m) w4 E:=by
   have q:=Fr.of_grown (P:=fun b=>b=m) al.o fun k Z=>by grind
   exact ⟨q.os,q.tape,q.output,q.size,q.block⟩
  have q5:E.cell? (aa g 0)=some (.map (some m))/\E.cell? (aa N 0)=some (tq t)/\E.cell? (aa N 1)=some (tq s) :=
   ⟨J.cell d2 H.o.ne,J.cell d0 (by grind),J.cell d1 (by grind)⟩
  refine hK.out _ _ q5 (fun hA=>?_)
  try simp only [Act.put,sz]
  refine tkd ?_;go_wp2_with fail
  go_ret2
  exact ⟨rfl,zG4 H.o (w.out _ p.o) (t,s) (G (t,s)) ae.o (xac ⟨hof,rfl⟩) Q.o HZ.o J ai.o⟩
 have ak:(C != 0)=true:=by simpa using hz
 have y:Hid (wT D k c i j=C/\zC7 D k c i j=0):=by
  have z:wT D k c i j=C:=by rw [ad.o,B]
  refine ⟨z,?_⟩;unfold zC7;rw [z,xag hz]
 have HZ:Hid (uI (ofD D k) c i j≠0):=by show _≠_;rw [B];exact hz
 rw [y.o.1,y.o.2];obtain ⟨t,s⟩:=k;simp only at *;go_enter func114,ntmps114;go_wp2_with fail;refine HK.o.mono ?_;rintro e u ⟨rfl,hb2⟩;obtain ⟨M,L⟩:=X.out u hb2;have R:=hid (O.o u hb2);have A:=hid hb2;go_wp2_with fail;refine R.o.mono ?_;rintro e w3 ⟨rfl,hb3⟩;have p:Hid (Bw W1 w3):=zA A.o A.o.size hb3;have U:=hid (T.o w3 p.o);go_wp2_with fail;refine U.o.mono ?_;rintro e w4 ⟨rfl,ht⟩;have Q:=hid ht;go_wp2_with fail
 go_ret2
 exact ⟨rfl,zGj H.o (w.out _ p.o) (t,s) (G (t,s)) ae.o (xac ⟨hof,rfl⟩) Q.o HZ.o⟩
end
section
variable {s t seen:List Ky} {D:List zQ} {k:Ky}
theorem zBv {F:Ky->Nat}:∀{s t:List Ky},s.Nodup->(∀k∈s,k∈t)->(s.map F).sum<=(t.map F).sum
 | [],_,_,_=>xaE _
 | k::s,t,hn,hs=>by
  obtain ⟨e,c⟩:=List.nodup_cons.1 hn;obtain ⟨a,b,rfl⟩:=List.append_of_mem (hs k zaH);have f:=zBv (F:=F) (s:=s) (t:=a++b) c fun x d=>by grind
  grind
theorem zPM {F:Ky->Nat} (hs:s.Nodup) (b:t.Nodup) (h:∀k,k∈s↔k∈t):(s.map F).sum=(t.map F).sum:=Nat.le_antisymm (zBv hs fun k a=>(h k).1 a) (zBv b fun k a=>(h k).2 a)
theorem zDK {l:List Ky} (h:yU yR l):l.Nodup:=h.imp fun {a b} hab e=>by
 rw [e,wX.irr] at hab
 cases hab
theorem zHC (h:OkD D) (f:List Vr->Nat):((D.map Prod.fst).map fun k=>f (ofD D k)).sum=(D.map fun r=>f r.2).sum:=by
 rw [xbW]
 congr 1
 refine xb5 fun r a=>?_<;>grind [jM]
theorem zGe (h:OkD D) (f:List Vr->Nat) {seen:List Ky} (b:seen.Nodup) (c:∀k∈seen,ofD D k≠[]) (d:∀k,ofD D k≠[]->k∈seen):(seen.map fun k=>f (ofD D k)).sum=(D.map fun r=>f r.2).sum:=by
 rw [<-zHC h f];exact zPM b (zDK h.rise) fun k=>⟨fun a=>(wI h k).2 (c k a),fun a=>d k ((wI h k).1 a)⟩
theorem fQ (h:OkD D) (f:List Vr->Nat) {seen:List Ky} (b:seen.Nodup) (c:∀k∈seen,ofD D k≠[]):(seen.map fun k=>f (ofD D k)).sum<=(D.map fun r=>f r.2).sum:=by
 rw [<-zHC h f];exact zBv b fun k a=>(wI h k).2 (c k a)
theorem sA {G:Ky->Cm}:(fOf G D k).isSome=true↔ofD D k≠[]:=by grind [pP,uY]
theorem tT.uniq {W:World} {m n d:Nat} {f b:Ky->Option Nat} (h:tT W m n f) (e:tT W m d b) {k:Ky} (c:yO k):f k=b k:=by
 have a:=zBG h c;rw [zBG e c] at a;injection a with a
 unfold mkP at a;injection a with a
 cases ha:f k<;>cases hb:b k<;>rw [ha,hb] at a<;>simp at a
 rw [a]
theorem mQ (F:Ky->Nat) (s:List Ky) (k:Ky):((s++[k]).map F).sum=(s.map F).sum+F k:=by simp
theorem zJT {n0:Nat} {W:World} {g m n:Nat} {G:Ky->Cm} {D:List zQ} (h:xI n0 W g m n G D) (hn:n<=2400000000000):CC 62 #[.pointer (some ⟨g,0,none⟩)] W fun e c=>e=.returned (.int .i64 (zT D:Nat))/\Below W.heap.size W c:=by
 have ae:=hid (zFH g m W h.cell);have B:=h.map;have r:=hid h
 have ab:Hid (∀seen:List Ky,seen.Nodup->(∀k∈seen,yO k/\(fOf G D k).isSome=true)->(seen.map fun k=>(ofD D k).length).sum<=2400000000000):=fun seen f i=>by
  have:=fQ r.out.ok List.length f fun k a=>sA.1 (i k a).2
  have u:=r.out.few;unfold zT at u;omega
 have Z:Hid (∀seen:List Ky,seen.Nodup->(∀k∈seen,yO k/\(fOf G D k).isSome=true)->(∀k,yO k->(fOf G D k).isSome=true->k∈seen)->(seen.map fun k=>(ofD D k).length).sum=zT D):=fun seen f i u =>
  zGe r.out.ok List.length f (fun k a=>sA.1 (i k a).2) fun k a=>u k (key_fit (r.out.key k a)) (sA.2 a)
 have M:Hid (∀c k,Below W.heap.size W c->CC 107 #[mkP (fOf G D k)] c fun e j=>e=.returned (ii ((ofD D k).length:Int))/\j=c):=fun c k hb=>zDy (h.on hb) k
 obtain ⟨N,d⟩:∃N,W.heap.size=N:=⟨_,rfl⟩;have al:m<N:=by rw [<-d];exact B.lt
 rw [d] at M;go_enter func62,ntmps62;go_wp2_with fail;refine ae.out.mono ?_;rintro e w ⟨rfl,rfl⟩;go_wp2_with (at_range;refine cY _ rfl _ rfl m n (fOf G D) rfl B ?_;intro w1 F z ag aj)
 go_frame
 try rw [d] at z;try rw [d];have S:=hid z
 have X:Hid (Below N w w1):=by
  have:=Fr.of_grown (P:=fun _=>False) ag fun k a=>by cases a
  exact this.below (by omega) fun k a=>a.elim
 go_loopg [3] F (fun gg R wr=>∃(seen:List Ky) (o:Nat),R=ii ((seen.map fun k=>(ofD D k).length).sum:Nat)/\o<=gg/\Hid (xU wr m N n (fOf G D) seen o)/\Hid (Below N w wr))
 case atStart=>exact ⟨[],F,rfl,zaL _,S.out,X.out⟩
 obtain ⟨seen,o,rfl,ak,HR,H⟩:=hrel;have v:=HR.out;have O:=v.nodup;go_wp2_with (at_next;refine zAu _ rfl _ rfl m N n (fOf G D) seen o rfl v ?_ ?_)
 ·intro ac;have Y:=hid (Z.out seen O.1 O.2.1 fun k f i=>ac k.1 k.2 f i);go_wp2_with fail;go_ret;rw [Y.out,d];exact ⟨rfl,H.out⟩
 intro K y b j J Q V x l ai U ah ad;obtain ⟨k,A⟩:∃k:Ky,(K,y)=k:=⟨_,rfl⟩;rw [A] at Q V x l
 have E:Below N w j:=by
  have:=Fr.of_grown (P:=fun b=>b=N) U fun k a=>by injection a with a;exact a.symm
  exact H.out.trans (this.below (by have:=v.lt;omega) fun k a=>by omega)
 have p:=hid (M.out j k E);rw [x] at p;have L:=ab.out (seen++[k]) l.nodup.1 l.nodup.2.1;rw [mQ] at L;have I:=hid (mQ (fun k=>(ofD D k).length) seen k);have af:=hid l;have T:=hid E;obtain ⟨q,C⟩:∃q,(seen.map fun k=>(ofD D k).length).sum=q:=⟨_,rfl⟩;obtain ⟨ln,hln⟩:∃ln,(ofD D k).length=ln:=⟨_,rfl⟩;rw [C,hln] at L I;rw [C];rw [hln] at p;have e1:IntKind.i64.wrap ((q:Int)+(ln:Int))=((q+ln:Nat):Int):=by rw [xam];omega
 subst A;simp only [nH,mkP,xbJ] at ad p ⊢;go_wp2_with fail;refine p.out.mono ?_;rintro e w3 ⟨rfl,rfl⟩;go_wp2_with fail;go_roundg J
 case measure=>omega
 exact ⟨seen++[(K,y)],J,by rw [I.out];go_num,zaL _,af.out,T.out⟩
end
section
variable {w W wr:World} {b n0 g m n r cnt:Nat} {G:Ky→Cm} {D:List zQ} {k:Ky} {f:Int} {seen:List Ky}
theorem zCW {o:Nat} {v:Value} (h:w.cell? ⟨b,o,none⟩=some v):∃cs t fz,w.heap[b]? = some (.cells cs t fz):=by grind [World.cell?]
theorem vE.cells {d:List Vx} {e:Value} (h:vE n0 w g d e) {b:Nat} (a:zBm g d e b):∃c t fz,w.heap[b]? = some (.cells c t fz):=by
 rcases a with rfl|a|⟨x,i,a⟩
 ·exact zCW h.cell
 ·obtain ⟨c,j⟩:=zV (show w.ownsRow n0 42 5 e d.length (KV.cells d) from h.row) a
  grind
 rcases a with a|⟨f,l,a⟩
 ·obtain ⟨c,j⟩:=zV (h.each x i).1.1.1 a
  grind
 obtain ⟨c,j⟩:=zV ((h.each x i).1.1.2 f l) a
 grind
theorem xI.noIter (h:xI n0 W g m n G D) {b:Nat} (d:mJ g m G D b) {x:Option Nat} {s:Nat} {a:Array Nat} {c:Nat}:W.heap[b]?≠some (.mapIter x s a c):=by
 intro q
 rcases d with rfl|rfl|⟨k,i,d⟩
 ·obtain ⟨l,t,j,e⟩:=zCW h.cell
  grind
 ·obtain ⟨o,p,e⟩:=h.map.obj
  grind
 obtain ⟨l,t,j,e⟩:=(h.prg k i).1.cells d
 grind
theorem zP8 {E:List zQ} (h:OkD D) (c:OkD E) (a:E.map Prod.fst=D.map Prod.fst) (d:∀k,ofD E k=ofD D k):E=D:=by
 have e:∀{X:List zQ},OkD X->X=(X.map Prod.fst).map fun k=>(k,ofD X k):=fun {X} hX=>by
  rw [xbW];refine (List.map_id X).symm.trans (xb5 fun r i=>?_)
  grind [jM]
 rw [e h,e c,a];exact xb5 fun k _=>by rw [d]
theorem zHx {l:List Vr} (h:OkD D) (a:ofD D k≠[]):(sL k l D).map Prod.fst=D.map Prod.fst:=by
 rw [zBE];exact zIJ wX h.rise ((wI h k).2 a)
def zJZ (n0:Nat) (W:World) (g m n:Nat) (G:Ky->Cm) (D:List zQ) (f:Int) (r:Nat) (seen:List Ky) (cnt:Nat) (wr:World):Prop:=∃G' D',xU wr m r n (fOf G D) seen cnt/\xI n0 wr g m n G' D'/\D'.map Prod.fst=D.map Prod.fst/\(∀k∈seen,ofD D' k=wV (ofD D k) f)/\(∀k,k ∉ seen->ofD D' k=ofD D k) /\
  (∀b,mJ g m G' D' b->mJ g m G D b∨W.heap.size<=b)/\Fr (mJ g m G D) W wr
theorem zJZ.range (h:zJZ n0 W g m n G D f r seen cnt wr):xU wr m r n (fOf G D) seen cnt:=by
 obtain ⟨_,_,h,_⟩:=h;exact h
theorem zLd (l:List Vr) (f:Int):(yF (wV l f)).num=(yF l).num:=by grind [yF,zHu]
theorem zMp {C:Nat} {i:World} (N:OkD D) (h:zJZ n0 W g m n G D f r seen cnt wr) (hr:W.heap.size<=r) {k:Ky} {b:Nat} (J:yO k) (M:k ∉ seen) (v:fOf G D k=some b)
  (hr2:xU i m r n (fOf G D) (seen++[k]) C) (hg2:wr.grownBy i (some r)):CC 121 #[.pointer (some ⟨b,0,none⟩),.int .u64 f] i fun e l=>e=.returned (.int .i64 (vH (ofD D k) f:Nat))/\zJZ n0 W g m n G D f r (seen++[k]) C l:=by
 obtain ⟨j,q,K,F,T,Z,U,o,B⟩:=h;obtain ⟨si,sn,sc,hit⟩:=K.iter;have u:Fr (fun x=>x=r) wr i:=Fr.of_grown hg2 fun x c=>by grind
 have a:xI n0 i g m n j q:=F.fr u fun x c e=>by subst e;exact F.noIter c hit
 have A:ofD D k≠[]:=sA.1 (by rw [v];rfl);have hok':ofD q k=ofD D k:=U k M;have hne':ofD q k≠[]:=by rw [hok'];exact A
 have V:(j k).g=b:=by
  have:=tT.uniq a.map hr2.map J;rw [uY hne',v] at this;injection this
 have H:=(a.prg k hne').1;have I:=(a.prg k hne').2;rw [<-V];refine (zMS H f).mono ?_;rintro e l ⟨rfl,s⟩;rw [I,hok'] at s ⊢;refine ⟨rfl,?_⟩;obtain ⟨si2,sn2,sc2,hit2⟩:=hr2.iter;have E:Fr (zBm (j k).g (j k).d (j k).vs) i l:=by obtain ⟨_,_,_,_,_,f⟩:=s;exact f
 have z:l.heap[m]? = i.heap[m]?:=E.block m a.map.lt fun t=>(a.off k hne' m t).2 rfl
 have R:l.heap[r]? = i.heap[r]?:=E.block r hr2.lt fun t=>a.noIter (xaf (xaf ⟨k,hne',t⟩)) hit2
 have X:=pY k (wV (ofD D k) f) a.ok;have ac:=fZ (ofD D k) f;have ad:=a.few;have P:=a.num k;rw [hok'] at X P;have Y:OkV (wV (ofD D k) f):=zFl (pW N k) f
 obtain ⟨L,O,Q,S⟩:=zC5 a k (j k) (xac ⟨hne',rfl⟩) s (Fr.refl _ _) ((a.map.on z).congr fun y _=>by
   by_cases e:y=k
   ·subst e;rw [xae rfl,uY hne']
   grind) (zHM A f) (a.key k hne') Y (by grind [zLd]) (by omega) (zaL n)
 have ab:=B.size;have hs2':=u.size;refine ⟨L,_,hr2.on z R,O,(zHx a.ok hne').trans T,fun y p=>?_,fun y p=>?_,fun x c=>?_,?_⟩
 ·rw [dB]
  grind
 ·rw [List.mem_append,not_or,xaH] at p;rw [dB,xag p.2]
  grind
 ·rcases Q x c with h|h|h
  ·exact o x h
  ·exact o x (xaf (xaf ⟨k,hne',h⟩))
  omega
 refine Fr.then (Fr.then B u fun x c=>?_) S fun x c=>?_
 ·omega
 rcases c with rfl|c
 ·exact o x (xaf (xac rfl))
 exact o x (xaf (xaf ⟨k,hne',c⟩))
theorem zOR {c:World} (h:xI n0 W g m n G D) (f:Int) {r cnt:Nat} (e:xU c m r n (fOf G D) [] cnt) (a:Below W.heap.size W c):zJZ n0 W g m n G D f r [] cnt c:=⟨G,D,e,h.on a,rfl,fun k d=>by simp at d,fun _ _=>rfl,fun _ a=>xac a,Fr.of_below a⟩
theorem zQy (c:xI n0 W g m n G D) {f:Int} {r:Nat} {seen:List Ky} {cnt:Nat} (h:zJZ n0 W g m n G D f r seen cnt wr) (t:∀k,yO k->(fOf G D k).isSome=true->k∈seen):cF n0 W g m G D n (wB D f) wr:=by
 obtain ⟨p,l,q,a,j,i,o,u,s⟩:=h
 have e:l=wB D f:=by
  refine zP8 (zEX c.ok f) a.ok (by rw [j,kF]) fun k=>?_
  rw [sY]
  by_cases hk:ofD D k=[]
  ·have v:k ∉ seen:=fun d=>(sA.1 (q.nodup.2.1 k d).2) hk
   rw [o k v,hk];rfl
  exact i k (t k (key_fit (c.key k hk)) (sA.2 hk))
 subst e;exact ⟨p,a,u,s⟩
theorem zIr (h:xI n0 W g m n G D) (hn:n<=2400000000000) (f:Int):CC 74 #[.pointer (some ⟨g,0,none⟩),.int .u64 f] W fun e w'=>e=.returned (.int .i64 (tL D f:Nat))/\cF n0 W g m G D n (wB D f) w':=by
 have ab:=hid (zFH g m W h.cell);have S:=h.map;have i:=hid h
 have Y:Hid (∀seen:List Ky,seen.Nodup->(∀k∈seen,yO k/\(fOf G D k).isSome=true)->(seen.map fun k=>vH (ofD D k) f).sum<=2400000000000):=fun seen c d=>by
  have:=fQ i.o.ok (fun l=>vH l f) c fun k a=>sA.1 (d k a).2
  have A:=i.o.few;have h4:=jQ D f;unfold tL at h4;omega
 have X:Hid (∀seen:List Ky,seen.Nodup->(∀k∈seen,yO k/\(fOf G D k).isSome=true)->(∀k,yO k->(fOf G D k).isSome=true->k∈seen)->(seen.map fun k=>vH (ofD D k) f).sum=tL D f):=fun seen c d A =>
  zGe i.o.ok (fun l=>vH l f) c (fun k a=>sA.1 (d k a).2) fun k a=>A k (key_fit (i.o.key k a)) (sA.2 a)
 obtain ⟨N,s⟩:=eE W.heap.size;go_enter func74,ntmps74;go_wp2_with fail;refine ab.o.mono ?_;rintro e w0 ⟨rfl,rfl⟩;go_wp2_with (at_range;refine cY _ rfl _ rfl m n (fOf G D) rfl S ?_;intro w1 B x ac af)
 go_frame
 try rw [s] at x;try rw [s]
 have T:Hid (Bw w0 w1):=by
  have:=Fr.of_grown (P:=fun _=>False) ac fun k a=>by cases a
  exact this.below (zaL _) fun k a=>a.elim
 have M:=hid (zOR i.o f x T.o)
 go_loopg [5] B (fun gg L wr=>∃(seen:List Ky) (cnt:Nat),L=ii ((seen.map fun k=>vH (ofD D k) f).sum:Nat)/\cnt<=gg/\Hid (zJZ n0 w0 g m n G D f N seen cnt wr))
 case atStart=>exact ⟨[],B,rfl,zaL _,M.o⟩
 obtain ⟨seen,cnt,rfl,ag,p⟩:=hrel;have C:=p.o.range;have K:=C.nodup;go_wp2_with (at_next;refine zAu _ rfl _ rfl m N n (fOf G D) seen cnt rfl C ?_ ?_)
 ·intro E;have U:=hid (X.o seen K.1 K.2.1 fun k c d=>E k.1 k.2 c d);have Q:=hid (zQy i.o p.o fun k c d=>E k.1 k.2 c d);go_wp2_with fail;go_ret;rw [U.o];exact ⟨rfl,Q.o⟩
 intro I v b w2 F u z t j ae O ad Z;obtain ⟨k,y⟩:∃k:Ky,(I,v)=k:=⟨_,rfl⟩;rw [y] at u z t j;have q:=hid (zMp i.o.ok p.o (by omega) u z t j O);have J:=Y.o (seen++[k]) j.nodup.1 j.nodup.2.1;rw [mQ] at J;have H:=hid (mQ (fun k=>vH (ofD D k) f) seen k);obtain ⟨sm,hsm⟩:=eE ((seen.map fun k=>vH (ofD D k) f).sum);obtain ⟨ln,hln⟩:=eE (vH (ofD D k) f);rw [hsm,hln] at J H;rw [hsm];rw [hln] at q;have e1:IntKind.i64.wrap ((sm:Int)+(ln:Int))=((sm+ln:Nat):Int):=by rw [xam];omega
 subst y;simp only [nH,mkP,xbJ] at Z q ⊢;go_wp2_with fail;refine q.o.mono ?_;rintro e w3 ⟨rfl,R⟩;have V:=hid R;go_wp2_with fail;go_roundg F
 case measure=>omega
 exact ⟨seen++[(I,v)],F,by rw [H.o];go_num,zaL _,V.o⟩
end
section
variable {G:Ky→Cm} {D:List zQ} {seen:List Ky} {N m n cnt:Nat} {w2 W wr:World} {v:Value} {typ:ByteArray} {k:Ky}
theorem Tryz.infoKz:(prog.info? 36).map (fun i=>(i.zero,i.size,i.bytes))=some (some (.agg #[.string ⟨#[]⟩,.string ⟨#[]⟩]),2,32):=by kernel_rfl
theorem zPH {a b:ByteArray} (h:a≠b):(a.toList==b.toList)=false:=by
 have:=Z.eqK_iff (a,a) (b,a)
 grind [Z.eqK]
def ofT (typ:ByteArray) (l:List Ky):List Ky:=l.filter fun k=>decide (k.1=typ)
theorem zLG (h:OkD D) (c:∀k,ofD D k≠[]->yO k) {seen:List Ky} (b:∀k∈seen,yO k/\(fOf G D k).isSome=true) (d:∀k,yO k->(fOf G D k).isSome=true->k∈seen) (typ:ByteArray):wM (ofT typ seen)=sB D typ:=by
 refine vF wX (tC _).1 (h.rise.sublist (xbG)) fun z=>?_
 rw [(tC _).2];unfold ofT sB;rw [List.mem_filter,List.mem_filter];refine and_congr ⟨fun a=>(wI h z).2 (sA.1 (b z a).2),fun a=>?_⟩ xbE
 grind [wI,sA]
theorem zOs (typ:ByteArray) (l:List Ky) (k:Ky):ofT typ (l++[k])=ofT typ l++(if k.1=typ then [k] else []):=by grind [ofT]
theorem zNY {α:Type} {K:zC α} {r:Nat} {w:World} {d:List α} {x:Option Nat} {s:Nat} {a:Array Nat} {c:Nat} (h:K.Own N w v d) (hi:w.heap[r]? = some (.mapIter x s a c)) (f:Fr (fun b=>b=r) w w2):K.Own N w2 v d:=by
 refine f.row h fun k g e=>?_
 obtain ⟨j,i⟩:=zV h g
 grind
structure zIw (W:World) (m n:Nat) (f:Ky->Option Nat) (N:Nat) (typ:ByteArray) (seen:List Ky) (cnt:Nat) (v:Value) (wr:World):Prop where
 rng:xU wr m N n f seen cnt
 bel:Below N W wr
 own:KK.Own N wr v (ofT typ seen)
theorem zIw.next {f:Ky->Option Nat} {cnt2:Nat} (h:zIw W m n f N typ seen cnt v wr) (_hN:W.heap.size=N) {k:Ky} (hr2:xU w2 m N n f (seen++[k]) cnt2) (hg2:wr.grownBy w2 (some N)) (u v':Value) (t:TypeId):xU (w2.alloc (.cells #[u,v'] t)) m N n f (seen++[k]) cnt2/\Below N W (w2.alloc (.cells #[u,v'] t))/\KK.Own N (w2.alloc (.cells #[u,v'] t)) v (ofT typ seen):=by
 obtain ⟨si,sn,sc,hit⟩:=h.rng.iter;have f2:Fr (fun x=>x=N) wr w2:=Fr.of_grown hg2 fun x hx=>by grind
 have ha:Bw w2 (w2.alloc (.cells #[u,v'] t)):=zaQ;refine ⟨hr2.on (ha.block _ hr2.map.lt) (ha.block _ hr2.lt),?_,zC.own_on (zNY h.own hit f2) ha⟩;have hb2:Below N W w2:=h.bel.trans (f2.below (by grind) fun x hx=>by omega);exact zA hb2 (by have:=hr2.lt;omega) ha
theorem zIw.grow {f:Ky->Option Nat} {i:Value} {w4:World} {l:List Ky} (c:xU wr m N n f (seen++[k]) cnt) (a:Below N W wr) (j:KK.Own N wr v l) (g:wr.grownBy w4 v.ownBlock) (o:KK.Own N w4 i (ofT typ (seen++[k]))):zIw W m n f N typ (seen++[k]) cnt i w4:=by
 obtain ⟨r,q,s,p⟩:=c.iter;obtain ⟨es,cl,hm⟩:=c.map.obj
 have h:∀{b:Nat},v.ownBlock=some b->N<=b/\b≠N/\b≠m:=fun {b} hbk=>by
  obtain ⟨t,d⟩:=zV j hbk;refine ⟨(zaW j b hbk).1,fun e=>?_,fun e=>?_⟩
  ·rw [e,p] at d;cases d
  rw [e,hm] at d;cases d
 refine ⟨c.on (g.block m c.map.lt fun e=>(h e.symm).2.2 rfl) (g.block N c.lt fun e=>(h e.symm).2.1 rfl),?_,o⟩;exact a.trans ((Fr.of_grown (P:=fun b=>v.ownBlock=some b) g fun b a=>a).below (by grind) fun b a=>(h a).1)
theorem zEW {n0:Nat} {g:Nat} (h:xI n0 W g m n G D) (hn:n<=2400000000000) (typ:ByteArray):CC 139 #[.pointer (some ⟨g,0,none⟩),.string typ] W fun e V=>∃u,e=.returned u/\KK.Own W.heap.size V u (sB D typ)/\Below W.heap.size W V:=by
 obtain ⟨i0,M,aj,al,aq⟩:=xaL Tryz.infoKz;have HI:=hid M;have ac:=hid (zFH g m W h.cell);have O:=h.map;have HH:=hid h
 have ak:Hid (∀seen:List Ky,(∀k∈seen,yO k/\(fOf G D k).isSome=true)->(∀k,yO k->(fOf G D k).isSome=true->k∈seen)->wM (ofT typ seen)=sB D typ):=fun seen x w =>
  zLG HH.o.ok (fun k r=>key_fit (HH.o.key k r)) x w typ
 obtain ⟨N,s⟩:=eE W.heap.size;clear h M;go_enter func139,ntmps139;go_wp2_with fail;refine ac.o.mono ?_;rintro e w0 ⟨rfl,rfl⟩;go_wp2_with (at_range;refine cY _ rfl _ rfl m n (fOf G D) rfl O ?_;intro w1 F C T R)
 go_frame
 try rw [s] at C;try rw [s]
 have K:Hid (zIw w0 m n (fOf G D) N typ [] F (sc none 0 0) w1):=by
  have:=Fr.of_grown (P:=fun _=>False) T fun k r=>by cases r
  exact ⟨C,this.below (by omega) fun k r=>r.elim,KK.own_nil _ _⟩
 clear C T R ac O
 go_loopg [5] F (fun gg vs wr=>∃(seen:List Ky) (cnt:Nat),cnt<=gg/\Hid (zIw w0 m n (fOf G D) N typ seen cnt vs wr))
 case atStart=>exact ⟨[],F,zaL _,K.o⟩
 clear K;obtain ⟨seen,cnt,ax,i⟩:=hrel;have l:=i.o.rng;have A:=l.nodup
 have aw:(ofT typ seen).length<=2400000000000:=by
  have x:(ofT typ seen).length<=seen.length:=xaS _ _;have w:=A.2.2;omega
 go_wp2_with (at_next;refine zAu _ rfl _ rfl m N n (fOf G D) seen cnt rfl l ?_ ?_)
 ·intro ab;have HE:=hid (ak.o seen A.2.1 fun k x w=>ab k.1 k.2 x w);have Z:=hid (zE8 N _ (ofT typ seen) wr i.o.own (by omega));have HB:=hid i.o.bel;have S:N<=wr.heap.size:=by have:=l.lt;omega
  rw [HE.o] at Z;clear ab l A;go_wp2_with fail;refine Z.o.mono ?_;rintro e w2 ⟨u,rfl,E,X⟩;have ah:=hid E;have an:=hid (zA HB.o S X);obtain ⟨q,c,rfl⟩:=zC.own_shape E;clear E X;go_wp2_with fail;go_ret;rw [s];exact ⟨_,rfl,zC.own_weak ah.o S,an.o⟩
 intro a d b w2 z af ag ae B au L am ap;obtain ⟨J,U,a3⟩:=i.o.next s B L (tq a) (tq d) 36;have f:=hid J;have Q:=hid U;have H:=hid a3;have y:=hid (zOs typ seen (a,d));have R:w0.heap.size<=w2.heap.size:=by have:=B.lt;omega
 simp only [nH,mkP,xbJ] at ap ⊢;obtain ⟨p,c,rfl⟩:=zC.own_shape i.o.own;clear l B A L ae af ag J U a3 am
 by_cases ht:a=typ
 ·subst ht;rw [xae rfl] at y
  go_wp2_with (first
   | (at_builtin;refine xbj _ rfl _ _ 46 rfl N 36 i0 (.agg #[tq ⟨#[]⟩,tq ⟨#[]⟩]) 2 32 underlying46 HI.o aj al aq rfl (by decide) _ _ _ rfl (xbp H.o _) _ 1 1 [tq a,tq d] rfl rfl (fun j u hj=>KK.newsN (w2.alloc (.cells #[tq a,tq d] 36)) (a,d) _ (by simp) j u hj) (by intro u Y;simp at Y;rcases Y with rfl|rfl<;>rfl) (by unfold maxLen;omega) (by omega) (by simp;omega) ?_;intro v4 w4 ad I ao;have ar:=hid ad;have ai:=hid I;clear ad I ao))
  go_roundg z
  case measure=>omega
  refine ⟨seen++[(a,d)],z,zaL _,?_⟩;have t:Below (w2.alloc (.cells #[tq a,tq d] 36)).heap.size (w2.alloc (.cells #[tq a,tq d] 36)) ((w2.alloc (.cells #[tq a,tq d] 36)).alloc (.cells #[tq a,tq d] 36)):=zaQ;refine zIw.grow (f.o.on (t.block _ f.o.map.lt) (t.block _ f.o.lt)) (zA Q.o (by have:=f.o.lt;omega) t) (zC.own_on H.o t) ai.o ?_;rw [y.o];exact zC.own_snoc ar.o rfl rfl
 have av:=zPH ht;rw [xag ht,xbL] at y;go_wp2_with fail;go_roundg z
 case measure=>omega
 exact ⟨seen++[(a,d)],z,zaL _,f.o,Q.o,by rw [y.o];exact H.o⟩
end
section
variable {D:List zQ} {t:Int} {k:Ky} {x:Vx} {w:World} {Bf B n0 g m n cap b0 b1 b2:Nat} {G:Ky→Cm} {keys:List Ky} {p:Option Addr}
attribute [local go_sem] Oper.semAt_some
abbrev Kx:=Ky × Vx
def zJt (x:Kx):Array Value:=#[.agg #[.string x.1.1,.string x.1.2],.agg (zF x.2).toArray]
def zD8 (x:Kx):Fnd:=(x.1,x.2.ver)
def tK (D:List zQ) (t:Int) (keys:List Ky):List Fnd:=keys.filterMap fun k=>tU t (k,ofD D k)
theorem zIk (D:List zQ) (t:Int) (ks:List Ky) (k:Ky):tK D t (ks++[k])=tK D t ks++(match tU t (k,ofD D k) with|some x=>[x]|none=>[]):=by grind [tK]
theorem zDF (a:x.ver=(atV (ofD D k) t).getD zeroV) (c:x.live=true):tU t (k,ofD D k)=some (k,x.ver)/\atV (ofD D k) t=some x.ver:=by
 cases h:atV (ofD D k) t with
 | none =>
  rw [h] at a;have:x.ver.live=false:=by rw [a];rfl
  have e:x.ver.live=x.live:=rfl
  grind
 | some v =>
 rw [h] at a;have b:x.ver=v:=a;refine ⟨?_,by rw [b]⟩;unfold tU;rw [show atV (k,ofD D k).2 t=some v from h];have:v.live=true:=by rw [<-b];exact c
 grind
theorem zLg (a:x.ver=(atV (ofD D k) t).getD zeroV) (b:x.live=false):tU t (k,ofD D k)=none:=by
 unfold tU
 cases h:atV (k,ofD D k).2 t with
 | none=>rfl
 | some v =>
 have h':atV (ofD D k) t=some v:=h;rw [h'] at a;have c:x.ver=v:=a;have:v.live=false:=by rw [<-c];exact b
 simp [this]
theorem zKa (D:List zQ) (t:Int) (ks:List Ky):(tK D t ks).length<=ks.length:=xbm _ _
theorem zFM (D:List zQ) (t:Int) (ks:List Ky) (i:Nat):tK D t (ks.take i) <+: tK D t ks:=by grind [tK]
theorem grown_of {a:World} (h:Below w.heap.size w a):w.grownBy a none:=⟨h.os,h.tape,h.output,h.size,fun i hi _=>h.block i hi⟩
def GdX (B N:Nat) (pre:List Kx) (x:Kx) (W:World):Prop:=zW B W x.2.sl x.2.o/\yZ (x.2.o.map Fx.fld)=true/\pre.length<N/\B<=W.heap.size
def KpX (Bf B:Nat) (W W':World):Prop:=Fr (fun b=>b=Bf∨B<=b) W W'
theorem fM {X Y Z:World} (h:KpX Bf B X Y) (k:KpX Bf B Y Z):KpX Bf B X Z:=Fr.then h k fun _ a=>xac a
theorem zP3 (W:World) (l:Nat) (o:Obj) (h:B<=l):KpX Bf B W (W.putObj l o):=⟨rfl,rfl,rfl,by simp,fun k _ a=>xbq (fun e=>a (xaf (by omega)))⟩
theorem zMN (W:World) (g:Nat) (p:Option Addr) (a cap:Nat) (t:Int):CC 138 #[.pointer (some ⟨g,0,none⟩),.slice p a cap,.int .u64 t] W fun e b=>e=.returned (.func (.func 192) #[] #[.pointer (some ⟨W.heap.size+1,0,none⟩),.pointer (some ⟨W.heap.size,0,none⟩),.pointer (some ⟨W.heap.size+2,0,none⟩)]) /\
   b=((W.alloc (.cells #[.pointer (some ⟨g,0,none⟩)] 86)).alloc (.cells #[.slice p a cap] 46)).alloc (.cells #[.int .u64 t] 24):=by
 have c:∀(fn:Fn) (first cap:Array Value) (w:World),(Instr.makeFunc fn first cap).run prog w=.ok (.func fn first cap) w:=fun _ _ _ _=>rfl
 go_enter func138,ntmps138
 go_wp2_with fail
 go_ret;exact ⟨rfl,rfl⟩
structure zLf (n0:Nat) (w:World) (g m n:Nat) (G:Ky->Cm) (D:List zQ) (keys:List Ky) (t:Int) (p:Option Addr) (cap b0 b1 b2 Bf:Nat):Prop where
 dir:xI n0 w g m n G D
 h0:w.heap[b0]? = some (.cells #[.pointer (some ⟨g,0,none⟩)] 86 (0,0))
 h1:w.heap[b1]? = some (.cells #[.slice p keys.length cap] 46 (0,0))
 h2:w.heap[b2]? = some (.cells #[.int .u64 t] 24 (0,0))
 row:keys=[]∨∃b off,p=some ⟨b,off,none⟩/\KK.At w b off keys/\b≠Bf
 fit:∀k∈keys,yO k
 few:keys.length<=2400000000000
 n0f:b0≠Bf
 n1f:b1≠Bf
 n2f:b2≠Bf
 off:¬ mJ g m G D Bf
theorem zLf.fr {n0:Nat} {w W:World} {g m n:Nat} {G:Ky->Cm} {D:List zQ} {keys:List Ky} {t:Int} {p:Option Addr} {cap b0 b1 b2 Bf:Nat} (h:zLf n0 w g m n G D keys t p cap b0 b1 b2 Bf) (f:KpX Bf w.heap.size w W):zLf n0 W g m n G D keys t p cap b0 b1 b2 Bf:=by
 have a:∀{b:Nat},b<w.heap.size->b≠Bf->W.heap[b]? = w.heap[b]?:=fun {b} hl hn=>f.block b hl fun e=>by omega
 have c:∀{b:Nat} {o:Obj},w.heap[b]? = some o->b<w.heap.size:=fun h=>(gA h).1
 refine ⟨h.dir.fr f fun b a e=>?_,(a (c h.h0) h.n0f).trans h.h0,(a (c h.h1) h.n1f).trans h.h1,(a (c h.h2) h.n2f).trans h.h2,?_,h.fit,h.few,h.n0f,h.n1f,h.n2f,h.off⟩
 ·rcases e with e|e
  ·rw [e] at a;exact h.off a
  have:=(h.dir.blk b a).2;omega
 rcases h.row with d|⟨b,r,d,s,l⟩
 ·grind
 refine xaf ⟨b,r,d,fun i hi j u q=>?_,l⟩;have:=s i hi j u q;exact (xap (a (zI this) l)).trans this
theorem zOX (nn:Nat) (br:1<=nn) {n0:Nat} {w:World} {g m n:Nat} {G:Ky->Cm} {D:List zQ} {keys:List Ky} {t:Int} {p:Option Addr} {cap b0 b1 b2 Bf:Nat} (h:zLf n0 w g m n G D keys t p cap b0 b1 b2 Bf) (l:Nat)
  (J Jx:List Kx->World->Prop) (W:World) (hW:Below w.heap.size w W) (hJ:AbidesFrom W.heap.size J)
  (hY:∀a x W1,J a W1->GdX w.heap.size keys.length a x W1->YieldAt Fence.wide (nn-1) prog l (zJt x) W1 fun e d =>
   (e=.returned (.bool true)/\J (a++[x]) d/\KpX Bf w.heap.size W1 d)∨(e=.returned (.bool false)/\Jx (a++[x]) d))
  (h0:J [] W):CallsIn Fence.wide nn prog 192 #[.func (.yield l) #[] #[],.pointer (some ⟨b1,0,none⟩),.pointer (some ⟨b0,0,none⟩),.pointer (some ⟨b2,0,none⟩)] W fun e d=>(∃v,e=.returned v) /\
   ((∃xs:List Kx,xs.map zD8=tK D t keys/\J xs d)∨(∃a:List Kx,a.map zD8 <+: tK D t keys/\Jx a d)):=by
 have Z:=hid h;have U:KpX Bf w.heap.size w W:=Fr.of_below hW;have ag:=h.fr U;have c1:W.cell? (aa b1 0)=some (sc p keys.length cap):=by rw [zaC ag.h1];rfl
 have bv:=h.few;have V:Hid (KpX Bf w.heap.size w W/\J [] W):=⟨U,h0⟩;refine callsIn_of_wp func192 rfl trivial ?_ rfl;simp only [ntmps192,xbk,xa3,xbi,Nat.reduceAdd,Nat.reduceSub,xb3,xb2,List.push_toArray,xb6,xbe,List.cons_append]
 gi_wp2
 gi_loopw [11] (fun C wr=>∃(i:Nat) (a:List Kx),C=ii i/\i<=keys.length/\KpX Bf w.heap.size w wr/\a.map zD8=tK D t (keys.take i)/\J a wr/\W.heap.size<=wr.heap.size) (fun C _=>keys.length-(intOf C).toNat)
 case atStart=>exact ⟨0,[],rfl,xaE _,V.out.1,rfl,V.out.2,zaL _⟩
 obtain ⟨i,a,rfl,hi,H,y,Q,bp⟩:=hrel
 by_cases hlt:i<keys.length
 ·have bi:(i:Int)<(keys.length:Int):=by omega
  have bt:(0:Int)<=i:=by omega
  have N:=Z.o.fr H
  obtain ⟨kb,ko,rfl,au,_⟩:∃b off,p=some (aa b off)/\KK.At wr b off keys/\b≠Bf:=by
   rcases N.row with e|e
   ·rw [e] at hlt;simp at hlt
   exact e
  obtain ⟨k0,k1⟩:=zH9 au i hlt;have M:=N.fit _ (zaN hlt);have ac:keys.take (i+1)=keys.take i++[keys[i]]:=zaK hlt;obtain ⟨k,hk⟩:=eE (keys[i]);rw [hk] at k0 k1 M ac;obtain ⟨W2,hW2⟩:=eE (wr.alloc (.cells #[tq k.1,tq k.2] 36));have R:Bw wr W2:=by rw [<-hW2];exact zaQ
  have ax:W2.heap.size=wr.heap.size+1:=by rw [<-hW2];simp
  have X:W2.heap[wr.heap.size]? = some (oc #[tq k.1,tq k.2] 36):=by rw [<-hW2];exact xab wr _
  have ab:KpX Bf w.heap.size w W2:=fM H (Fr.of_below R);have A:=Z.o.fr ab;have bd:=hid (zJo A.dir k M t);have d0:W2.cell? (aa b0 0)=some (jp g):=by rw [zaC A.h0];rfl
  have d2:W2.cell? (aa b2 0)=some (iu t):=by rw [zaC A.h2];rfl
  have O:W2.cell? (aa wr.heap.size 0)=some (tq k.1):=cz X;have I:W2.cell? (aa wr.heap.size 1)=some (tq k.2):=cz X;have q:=hid (zIk D t (keys.take i) k);rw [<-ac] at q;have S:=hid y
  have bs:a.length<=i:=by
   have E:=xad List.length y;rw [zaM] at E;have f:=zKa D t (keys.take i);rw [xa2] at f;omega
  have ai:Hid (∀v,atV (ofD D k) t=some v->yZ v.val=true):=fun v hv=>by
   have z:=zRD hv;have ak:ofD D k≠[]:=by intro e;rw [e] at z;simp at z
   obtain ⟨E,f⟩:=A.dir.prg k ak;rw [<-f] at z;obtain ⟨x,s,rfl⟩:=List.mem_map.1 z;exact (E.each x s).2
  have av:=hid Q;have aw:=hid ab;have az:=hid R;have bf:w.heap.size<=wr.heap.size:=H.size;obtain ⟨c,ao⟩:=eE wr.heap.size;obtain ⟨ka,kbb⟩:=k;simp only at *;rw [ao] at O I ax bf
  gi_wp2
  refine ⟨trivial,?_⟩
  gi_at_call 67
  refine (callsIn_wide.2 bd.o).mono ?_;rintro e j ⟨x,rfl,s,be,ad⟩;have bl:=ad.size;obtain ⟨W4,hW4⟩:=eE (j.alloc (.cells (zF x).toArray 42));have F:Bw j W4:=by rw [<-hW4];exact zaQ
  have bu:=F.size;have aq:wO W4 j.heap.size x:=by rw [<-hW4];exact xab j _
  have u:Bw W2 W4:=zA ad bl F;have af:Bw wr W4:=zA az.o (by omega) u;have bn:W4.cell? (aa c 0)=some (tq ka):=(u.cell (p:=(aa c 0)) (show c<W2.heap.size by omega)).trans O;have bq:W4.cell? (aa c 1)=some (tq kbb):=(u.cell (p:=(aa c 1)) (show c<W2.heap.size by omega)).trans I;have bb:J a W4:=hJ a wr W4 none av.o (grown_of af) fun r e=>by cases e
  have an:zW w.heap.size W4 x.sl x.o:=zM (be.on F) (by omega);have ba:KpX Bf w.heap.size w W4:=fM aw.o (Fr.of_below u);obtain ⟨v0,v1,v2,v3,v4⟩:=aq.cells;obtain ⟨V0,hV0⟩:=eE j.heap.size;rw [hV0] at v0 v1 v2 v3 v4;have HX:=hid s
  have ay:x.live=true->yZ (x.o.map Fx.fld)=true:=fun hl=>by
   obtain ⟨_,f⟩:=zDF (k:=(ka,kbb)) s hl;exact ai.o _ f
  have am:=hid ay;have bk:=hid an;have Y:=hid ba;have T:=hid bb;have K:W.heap.size<=W4.heap.size:=by omega
  have bh:w.heap.size<=W4.heap.size:=by omega
  obtain ⟨o,ho⟩:=eE ((atV (ofD D (ka,kbb)) t).isSome);rw [ho];obtain ⟨xn,xs,xt,xl,xp,xc,xo⟩:=x;simp only [zF,Vx.sl] at *
  cases xl with
  | true =>
   have bc:GdX w.heap.size keys.length a ((ka,kbb),⟨xn,xs,xt,true,xp,xc,xo⟩) W4:=⟨bk.o,am.o rfl,by omega,bh⟩;obtain ⟨fn,bw,bm,bo,hy,hR⟩:=hY a ((ka,kbb),⟨xn,xs,xt,true,xp,xc,xo⟩) W4 T.o bc;have al:=hid (zDF HX.o rfl).1;rw [al.o] at q
   have L:Hid ((a++[((ka,kbb),(⟨xn,xs,xt,true,xp,xc,xo⟩:Vx))]).map zD8=tK D t (keys.take (i+1))):=by
    show _=_
    rw [q.o,xak,S.o];rfl
   simp only [zJt,zF,Vx.sl] at hy
   gi_wp2
   refine hR.mono ?_;rintro e W5 (⟨rfl,bg,P⟩|⟨rfl,ah⟩)
   ·have bj:=hid (fM Y.o P);have aj:=hid bg;have ap:W.heap.size<=W5.heap.size:=zaU K P.size
    gi_wp2
    go_roundw
    case rel=>exact ⟨i+1,_,by go_num,by omega,bj.o,L.o,aj.o,ap⟩
    case measure=>simp [intOf];omega
   gi_wp2
   refine zaB (xbV rfl _ _ _) rfl ?_;exact ⟨⟨_,rfl⟩,.inr ⟨_,by rw [L.o];exact zFM D t keys (i+1),ah⟩⟩
  | false =>
  have ae:=hid (zLg HX.o rfl);simp only [ae.o,xbL] at q
  gi_wp2
  refine ⟨fun _ h=>(by cases h),?_⟩
  gi_wp2
  go_roundw
  case rel=>exact ⟨i+1,a,by go_num,by omega,Y.o,by rw [q.o];exact S.o,T.o,K⟩
  case measure=>simp [intOf];omega
 have bi:¬ (i:Int)<(keys.length:Int):=by omega
 have ar:keys.take i=keys:=xaj (by omega);rw [ar] at y
 gi_wp2
 go_end0
 exact ⟨⟨_,rfl⟩,.inl ⟨a,y,Q⟩⟩
theorem zOD (nn:Nat) (b:1<=nn) {n0:Nat} {w:World} {g m n:Nat} {G:Ky->Cm} {D:List zQ} {keys:List Ky} {t:Int} {p:Option Addr} {cap b0 b1 b2 Bf:Nat} (h:zLf n0 w g m n G D keys t p cap b0 b1 b2 Bf):zQV Fence.wide nn prog 192 #[.pointer (some ⟨b1,0,none⟩),.pointer (some ⟨b0,0,none⟩),.pointer (some ⟨b2,0,none⟩)] zJt (GdX w.heap.size keys.length) (KpX Bf w.heap.size) (fun a=>a.map zD8=tK D t keys) (fun i=>i.map zD8 <+: tK D t keys) w:=fun l J j W e d f c=>zOX nn b h l J j W e d f c
end
section
variable {N Bf B:Nat} {w W W' W4:World} {u v:Value} {o:List Fx} {row:Option Nat} {pre:List Kx} {fs:List Fd}
def zDC (w:World) (l:List Fnd) (e:Ending) (w':World):Prop:=∃u fs,e=.returned u/\KFd.Own w.heap.size w' u fs/\(∀f∈fs,zW w.heap.size w' f.v.sl f.v.o/\yZ (f.v.o.map Fx.fld)=true)/\fs.map Fd.fnd=l/\Below w.heap.size w w'
structure fJ (Bf:Nat) (w:World) (sel:Fnd->Bool) (pre:List Kx) (v:Value) (fs:List Fd) (W:World):Prop where
 box:W.heap[Bf]? = some (.cells #[v] 43 (0,0))
 own:KFd.Own w.heap.size W v fs
 val:∀f∈fs,zW w.heap.size W f.v.sl f.v.o/\yZ (f.v.o.map Fx.fld)=true
 eq:fs.map Fd.fnd=(pre.map zD8).filter sel
 len:fs.length<=pre.length
 fr:Fr (fun b=>b=Bf) w W
 lt:Bf<w.heap.size
theorem tE (h:zW N w u o) {k:Nat} (a:nF u o k):∃b t,w.heap[k]? = some (.cells b t (0,0))/\(t=82∨t=9):=by
 rcases a with a|⟨f,c,a⟩
 ·obtain ⟨b,d⟩:=zV h.1.1 a
  grind
 obtain ⟨b,d⟩:=zV (h.1.2 f c) a
 grind
theorem mP (a:W.grownBy W' row):Fr (fun b=>row=some b) W W':=Fr.of_grown a fun _ h=>h
theorem zJk (h:zW N W u o) (d:W.grownBy W' row) (c:∀r,row=some r->∃ob:Obj,W.heap[r]? = some ob/\ob.isCells=false):zW N W' u o:=yC h (mP d) fun k a e=>by
  obtain ⟨f,t,b,_⟩:=tE h a;obtain ⟨ob,h2,h3⟩:=c k e;rw [b] at h2;injection h2 with h2
  rw [<-h2] at h3
  cases h3
theorem zQn {α:Type} {K:zC α} {d:List α} (h:K.Own N W v d) (b:W.grownBy W' row) (f:∀r,row=some r->∃ob:Obj,W.heap[r]? = some ob/\ob.isCells=false):K.Own N W' v d:=(mP b).row h fun k a e=>by
  obtain ⟨g,c⟩:=zV h a;obtain ⟨ob,h2,h3⟩:=f k e;rw [c] at h2;injection h2 with h2
  rw [<-h2] at h3
  cases h3
theorem zCN {b:Nat} {cs:Array Value} {t:TypeId} {d:Nat × Nat} (h:W.heap[b]? = some (.cells cs t d)) (g:W.grownBy W' row) (i:∀r,row=some r->∃c:Obj,W.heap[r]? = some c/\c.isCells=false):W'.heap[b]? = some (.cells cs t d):=(g.block b (gA h).1 fun e=>by
  obtain ⟨c,a,f⟩:=i b e.symm;rw [h] at a;injection a with a
  rw [<-a] at f
  cases f).trans h
theorem fJ.nc {d:Fnd->Bool} (h:fJ Bf w d pre v fs W) (c:W.grownBy W' row) (a:∀r,row=some r->w.heap.size<=r/\∃ob:Obj,W.heap[r]? = some ob/\ob.isCells=false):fJ Bf w d pre v fs W':=⟨zCN h.box c fun r e=>(a r e).2,zQn h.own c fun r e=>(a r e).2,fun f g=>⟨zJk (h.val f g).1 c fun r e=>(a r e).2,(h.val f g).2⟩,h.eq,h.len,Fr.then h.fr (mP c) fun b i=>xaf (a b i).1,h.lt⟩
theorem fJ.own_from (Bf:Nat) (w:World) (a:Fnd->Bool):OwnFrom w.heap.size (fun pre W=>∃v fs,fJ Bf w a pre v fs W):=by
 rintro s W W' row ⟨v,fs,h⟩ c b;exact ⟨v,fs,h.nc c b⟩
theorem fJ.on {a:Fnd->Bool} (h:fJ Bf w a pre v fs W) (b:Below W.heap.size W W'):fJ Bf w a pre v fs W':=h.nc (grown_of b) fun r e=>by cases e
theorem GdX.nc {x:Kx} (h:GdX B N pre x W) (a:W.grownBy W' row) (b:∀r,row=some r->∃ob:Obj,W.heap[r]? = some ob/\ob.isCells=false):GdX B N pre x W':=⟨zJk h.1 a b,h.2.1,h.2.2.1,zaU h.2.2.2 a.size⟩
theorem zCI {P:Nat->Prop} (f:Fr P W W') (h:∀b,B<=b->P b->∃e t c,W.heap[b]? = some (.cells e t c)):KeepsFrom B W W':=⟨f.size,fun k o g a d=>by
  by_cases hp:P k
  ·obtain ⟨e,t,c,i⟩:=h k g hp;rw [i] at a;injection a with a
   rw [<-a] at d
   cases d
  exact (f.block k (gA a).1 hp).trans a⟩
theorem zPW {l:Fnd->Bool} {d:Value} {a:World} {x:Kx} (h:fJ Bf w l pre v fs W) (q:GdX w.heap.size N pre x W) (r:Below W.heap.size W W4) (t:W4.grownBy a v.ownBlock)
  (ho1:KFd.Own w.heap.size a d (fs++[⟨x.1.1,x.1.2,x.2⟩])) (hs:l (zD8 x)=true):KeepsFrom w.heap.size W (a.setCell ⟨Bf,0,none⟩ d)/\KpX Bf w.heap.size W (a.setCell ⟨Bf,0,none⟩ d)/\fJ Bf w l (pre++[x]) d (fs++[⟨x.1.1,x.1.2,x.2⟩]) (a.setCell ⟨Bf,0,none⟩ d):=by
 have s:=h.lt;have C:=h.fr.size;have A:∀b,v.ownBlock=some b->w.z<=b/\∃cs,W.heap[b]? = some (oc cs 171):=fun b c=>⟨(zaW h.own b c).1,zV h.own c⟩
 have m:Fr (fun b=>b=Bf) a (a.setCell (aa Bf 0) d):=Fr.of_grown (xS a Bf 0 d) fun k j=>by grind
 have n:Fr (fun b=>v.ownBlock=some b) W a:=Fr.then (Fr.of_below r) (mP t) fun b c=>xac c
 have i:Fr (fun b=>b=Bf∨v.ownBlock=some b) W (a.setCell (aa Bf 0) d):=Fr.then (n.mono fun b c=>xaf c) m fun b c=>xac (xac c)
 have y:a.heap[Bf]? = some (oc #[v] 43):=(n.block Bf (by omega) fun e=>by grind).trans h.box;have p:∀{u:Value} {o:List Fx},zW w.z W u o->zW w.z (a.setCell (aa Bf 0) d) u o:=fun {u o} hJ=>yC hJ i fun k j e=>by grind [yL,tE]
 refine ⟨zCI i fun b c e=>?_,i.mono fun b c=>?_,?_⟩
 ·grind
 ·grind
 refine ⟨xaa a Bf 0 _ _ _ y,m.row ho1 fun k j e=>?_,fun f g=>?_,?_,?_,Fr.then h.fr i fun b c=>?_,s⟩
 ·have:=(zaW ho1 k j).1;omega
 ·rcases List.mem_append.1 g with g|g
  ·exact ⟨p (h.val f g).1,(h.val f g).2⟩
  rw [xaH] at g;subst g;exact ⟨p q.1,q.2.1⟩
 ·rw [xak,xak,xaV,h.eq]
  congr 1
  simp only [xaZ,List.map_nil,xbr,hs,List.filter_nil,if_true];rfl
 ·rw [xah,xah];have:=h.len
  grind
 grind
theorem zPY {c:Fnd->Bool} {x:Kx} (h:fJ Bf w c pre v fs W) (d:Below W.heap.size W W4) (hs:c (zD8 x)=false):KeepsFrom w.heap.size W W4/\KpX Bf w.heap.size W W4/\fJ Bf w c (pre++[x]) v fs W4:=by
 have a:=h.on d;refine ⟨zCI (P:=fun _=>False) (Fr.of_below d) fun b _ e=>e.elim,Fr.of_below d,a.box,a.own,a.val,?_,?_,a.fr,a.lt⟩
 ·rw [xak,xaV,<-h.eq];simp [hs]
 rw [xah];have:=h.len;omega
end
section
open Go.RowKit Go.Lib
section
variable {w:World} {g:Nat} {x:Tm}
def cS (w:World) (g:Nat) (x:Tm):Prop:=w.heap[g]? = some (.cells #[.string x.1,.int .i64 x.2.1,.string x.2.2] 239 (0,0))
theorem cS.cells (h:cS w g x):w.cell? ⟨g,0,none⟩=some (.string x.1)/\w.cell? ⟨g,1,none⟩=some (.int .i64 x.2.1)/\w.cell? ⟨g,2,none⟩=some (.string x.2.2):=by
 rw [zaC h,zaC h,zaC h]
 grind
theorem cS.lt (h:cS w g x):g<w.heap.size:=(Array.getElem?_eq_some_iff.1 h).1
theorem cS.on {a:World} (h:cS w g x) (b:Below w.heap.size w a):cS a g x:=(b.block g h.lt).trans h
theorem zF9 (w:World) (x:Tm):cS (w.alloc (.cells #[.string x.1,.int .i64 x.2.1,.string x.2.2] 239)) w.heap.size x:=xab w _
theorem zDc (s t:ByteArray):Lib.hasPrefix s.data.toList t.data.toList=fU s t:=by
 unfold fU;rw [zAw]
 by_cases h:t.size<=s.size
 ·rw [xas h,Bool.true_and];rw [xaO,xaQ];have e:(s.extract 0 t.size).data.toList=s.data.toList.take t.size:=by simp
  constructor
  ·intro a;refine zFk ?_;rw [e];have:=List.prefix_iff_eq_take.1 (List.isPrefixOf_iff_prefix.1 a)
   simpa using this.symm
  intro b;refine List.isPrefixOf_iff_prefix.2 ?_
  grind
 rw [xar h,Bool.false_and,Bool.eq_false_iff];intro a;have:=(List.isPrefixOf_iff_prefix.1 a).length_le;simp at this;exact h this
def Bt:Type:={ t:ByteArray // t.size<=maxLen }
theorem gJ (f:ByteArray->Bool) (k:Nat) (lb:Array Value) (n:∀args w,(callFunc k args).run prog w=.ok (.enter k args) w) (p:Option Addr) (i:Nat) (a:List ByteArray) (w:World) (h:pA w p a) (j:zKd a)
  (hk:∀(W:World) (t:ByteArray),Below w.heap.size w W->t.size<=maxLen->CC k (#[.string t]++lb) W fun e d=>e=.returned (.bool (f t))/\∃q,d=W.drewN q):CC 230 #[.slice p a.length i,.func (.func k) #[] lb] w fun e d=>e=.returned (.bool (a.any f))/\∃q,d=w.drewN q:=by
 rcases h with rfl|⟨b,l,rfl,u⟩
 ·refine (Tryz.slices_ContainsFunc_empty (α:=ByteArray) p i _ w).mono ?_;rintro e d ⟨rfl,rfl⟩;exact ⟨rfl,0,rfl⟩
 have m:=j.1;unfold maxLen at m;obtain ⟨c,r⟩:∃c:List Bt,c.map (·.1)=a:=⟨a.attachWith _ j.2,List.attachWith_map_subtype_val ..⟩;have s:c.length=a.length:=by rw [<-r,zaM]
 letI:Inhabited Bt:=⟨⟨⟨#[]⟩,xaE _⟩⟩
 refine (Tryz.slices_ContainsFunc (fun t:Bt=>Value.string t.1) (fun t=>f t.1) k lb n b l a.length i c w (fun W x o=>hk W x.1 o x.2) (by omega) (by omega) ?_).mono ?_
 ·grind
 grind
theorem zMZ:∀args w,(callFunc 238 args).run prog w=.ok (.enter 238 args) w:=xaR func238 (by kernel_rfl) rfl
theorem zKc:∀args w,(callFunc 240 args).run prog w=.ok (.enter 240 args) w:=xaR func240 (by kernel_rfl) rfl
theorem zLj:∀args w,(callFunc 242 args).run prog w=.ok (.enter 242 args) w:=xaR func242 (by kernel_rfl) rfl
theorem zMJ:∀args w,(callFunc 243 args).run prog w=.ok (.enter 243 args) w:=xaR func243 (by kernel_rfl) rfl
theorem zKv:∀args w,(callFunc 244 args).run prog w=.ok (.enter 244 args) w:=xaR func244 (by kernel_rfl) rfl
theorem zRO (g:Nat) (x:Tm) (t:ByteArray) (W:World) (f:cS W g x) (b:x.2.2.size<=maxLen) (c:t.size<=maxLen):CC 238 #[.string t,.pointer (some ⟨g,0,none⟩)] W fun e h=>e=.returned (.bool (nV x.2.2 t))/\∃q,h=W.drewN q:=by
 obtain ⟨_,_,i⟩:=f.cells;have d:=hid b;have a:=hid c;go_enter func238,ntmps238;go_wp2_with (go_at_call 239;refine (zMH _ _ _ d.o a.o).mono ?_;rintro e w1 ⟨rfl,n,rfl⟩);go_ret;exact ⟨rfl,n,rfl⟩
theorem zRC (g:Nat) (x:Tm) (t:ByteArray) (W:World) (b:cS W g x):CC 240 #[.string t,.pointer (some ⟨g,0,none⟩)] W fun e c=>e=.returned (.bool (fU t x.2.2))/\∃q,c=W.drewN q:=by
 obtain ⟨_,_,d⟩:=b.cells;have a:=hid (zDc t x.2.2);go_enter func240,ntmps240;go_wp2_with (go_at_call 241;refine (Tryz.strings_HasPrefix _ _ _).mono ?_;rintro e w1 ⟨rfl,rfl⟩);go_ret;exact ⟨zH a.o,0,rfl⟩
theorem zR7 (g:Nat) (x:Tm) (t:ByteArray) (W:World) (b:cS W g x):CC 242 #[.string t,.pointer (some ⟨g,0,none⟩)] W fun e c=>e=.returned (.bool (ltB t x.2.2))/\∃q,c=W.drewN q:=by
 obtain ⟨_,_,d⟩:=b.cells;have a:=hid (zG3 (rfl:ltB t x.2.2=_));go_enter func242,ntmps242;go_wp2_with fail;go_ret;exact ⟨zH a.o,0,rfl⟩
theorem zQu (g:Nat) (x:Tm) (t:ByteArray) (W:World) (b:cS W g x):CC 243 #[.string t,.pointer (some ⟨g,0,none⟩)] W fun e d=>e=.returned (.bool (ltB x.2.2 t))/\∃q,d=W.drewN q:=by
 obtain ⟨_,_,f⟩:=b.cells;have a:=hid (zRL t x.2.2);have c:=hid (zG3 (rfl:ltB t x.2.2=_));go_enter func243,ntmps243;go_wp2_with fail;go_ret;refine ⟨zH ?_,0,rfl⟩;rw [<-a.o,c.o]
theorem zQl (t:ByteArray) (W:World):CC 244 #[.string t] W fun e a=>e=.returned (.bool true)/\∃q,a=W.drewN q:=by
 go_enter func244,ntmps244
 go_wp2_with fail
 go_ret;exact ⟨rfl,0,rfl⟩
theorem zNS (a:List ByteArray):a.any (fun _=>true)=decide (0<a.length):=by
 cases a<;>simp
theorem zCf (x:Tm) (p:Option Addr) (d:Nat) (a:List ByteArray) (w:World) (h:pA w p a) (q:zKd a) (G:x.2.2.size<=maxLen):CC 193 #[.agg #[.string x.1,.int .i64 x.2.1,.string x.2.2],.slice p a.length d] w fun e K=>e=.returned (.bool (zAv x a))/\yD w K:=by
 obtain ⟨W,s⟩:=eE (w.alloc (.cells #[tq x.1,ii x.2.1,tq x.2.2] 239));have l:Bw w W:=by rw [<-s];exact zaQ
 have f:Hid (yD w W):=by rw [<-s];exact (yD.refl _).alloc _
 have m:cS W w.z x:=by rw [<-s];exact zF9 w x
 have N:∀(fn:Fn) (first d:Array Value) (w:World),(Instr.makeFunc fn first d).run prog w=.ok (.func fn first d) w:=fun _ _ _ _=>rfl
 have y:=hid (gJ (nV x.2.2) 238 #[jp w.z] zMZ p d a W (h.kept l) q (fun V t i k=>zRO w.z x t V (m.on i) G k));have A:=hid (gJ (fun t=>fU t x.2.2) 240 #[jp w.z] zKc p d a W (h.kept l) q (fun V t i k=>zRC w.z x t V (m.on i)));have D:=hid (gJ (fun t=>ltB t x.2.2) 242 #[jp w.z] zLj p d a W (h.kept l) q (fun V t i k=>zR7 w.z x t V (m.on i)));have C:=hid (gJ (fun t=>ltB x.2.2 t) 243 #[jp w.z] zMJ p d a W (h.kept l) q (fun V t i k=>zQu w.z x t V (m.on i)));have u:=hid (gJ (fun _=>true) 244 #[] zKv p d a W (h.kept l) q (fun V t i k=>zQl t V));obtain ⟨J,I,E⟩:=m.cells;obtain ⟨r,hr⟩:=eE (zAv x a);rw [hr];have b:=hid hr;obtain ⟨xf,xo,xt⟩:=x;simp only at s J I E y A D C;unfold zAv at b;simp only at b;rw [zNS] at u;obtain ⟨B1,hB1⟩:∃B,a.any (nV xt)=B:=⟨_,rfl⟩;rw [hB1] at y b;obtain ⟨B2,hB2⟩:∃B,a.any (fun t=>fU t xt)=B:=⟨_,rfl⟩;rw [hB2] at A b;obtain ⟨B3,hB3⟩:∃B,a.any (fun t=>ltB t xt)=B:=⟨_,rfl⟩;rw [hB3] at D b;obtain ⟨B4,hB4⟩:∃B,a.any (fun t=>ltB xt t)=B:=⟨_,rfl⟩;rw [hB4] at C b;have F:decide (a.length=0) = !decide (0<a.length):=by cases a<;>simp
 rw [F] at b;obtain ⟨v,H⟩:∃B,decide (0<a.length)=B:=⟨_,rfl⟩;rw [H] at u b
 by_cases hr7:1<=xo/\xo<=7
 ·rcases (show xo=1∨xo=2∨xo=3∨xo=4∨xo=5∨xo=6∨xo=7 by omega) with rfl|rfl|rfl|rfl|rfl|rfl|rfl
  ·have c:Hid (B1=r):=by have:=b.o;show B1=r;simpa using this
   go_enter func193,ntmps193
   go_wp2_with (go_at_call 230;refine y.o.mono ?_;rintro e j ⟨rfl,n,rfl⟩)
   go_ret;refine ⟨zH ?_,f.o.drewN n⟩;rw [<-c.o]
  ·have c:Hid ((!B1)=r):=by have:=b.o;show (!B1)=r;simpa using this
   go_enter func193,ntmps193
   go_wp2_with (go_at_call 230;refine y.o.mono ?_;rintro e j ⟨rfl,n,rfl⟩)
   go_ret;refine ⟨zH ?_,f.o.drewN n⟩;rw [<-c.o]
  ·have c:Hid (B2=r):=by have:=b.o;show B2=r;simpa using this
   go_enter func193,ntmps193
   go_wp2_with (go_at_call 230;refine A.o.mono ?_;rintro e j ⟨rfl,n,rfl⟩)
   go_ret;refine ⟨zH ?_,f.o.drewN n⟩;rw [<-c.o]
  ·have c:Hid (B3=r):=by have:=b.o;show B3=r;simpa using this
   go_enter func193,ntmps193
   go_wp2_with (go_at_call 230;refine D.o.mono ?_;rintro e j ⟨rfl,n,rfl⟩)
   go_ret;refine ⟨zH ?_,f.o.drewN n⟩;rw [<-c.o]
  ·have c:Hid (B4=r):=by have:=b.o;show B4=r;simpa using this
   go_enter func193,ntmps193
   go_wp2_with (go_at_call 230;refine C.o.mono ?_;rintro e j ⟨rfl,n,rfl⟩)
   go_ret;refine ⟨zH ?_,f.o.drewN n⟩;rw [<-c.o]
  ·have c:Hid (v=r):=by have:=b.o;show v=r;simpa using this
   go_enter func193,ntmps193
   go_wp2_with (go_at_call 230;refine u.o.mono ?_;rintro e j ⟨rfl,n,rfl⟩)
   go_ret;refine ⟨zH ?_,f.o.drewN n⟩;rw [<-c.o]
  have c:Hid ((!v)=r):=by have:=b.o;show (!v)=r;simpa using this
  go_enter func193,ntmps193
  go_wp2_with (go_at_call 230;refine u.o.mono ?_;rintro e j ⟨rfl,n,rfl⟩)
  go_ret;refine ⟨zH ?_,f.o.drewN n⟩;rw [<-c.o]
 have c:Hid (false=r):=by
  have:=b.o;rw [xag (by omega),xag (by omega),xag (by omega),xag (by omega),xag (by omega),xag (by omega),xag (by omega)] at this;exact this
 have R:(xo==1)=false:=by simp;omega
 have M:(xo==2)=false:=by simp;omega
 have O:(xo==3)=false:=by simp;omega
 have P:(xo==4)=false:=by simp;omega
 have S:(xo==5)=false:=by simp;omega
 have L:(xo==6)=false:=by simp;omega
 have Q:(xo==7)=false:=by simp;omega
 go_enter func193,ntmps193
 go_wp2_with fail
 go_ret;exact ⟨zH c.o,f.o⟩
theorem jK (u v:Value) (p:List Tm) (d:List Fx) (w:World) (hu:KM.Is w u p) (T:qZ p) (hv:wH w v d) (hf:yW d) (ae:∀x∈d,x.txt.length * 16<=140737488355328):CC 140 #[u,v] w fun e a=>e=.returned (.bool (zR p (d.map Fx.fld)))/\Below w.heap.size w a:=by
 obtain ⟨q,am,rfl,hd⟩:=hu;have hl:=T.1;unfold maxLen at hl;have HD:=hid hd;have HV:=hid hv;have Z:=hid hf;have HP:=hid T;have ai:=hid ae;obtain ⟨r,hr⟩:=eE (zR p (d.map Fx.fld));rw [hr];have HR:=hid hr;go_enter func140,ntmps140;go_wp2_with fail
 go_loopg [9] p.length (fun g vi wr=>∃i:Nat,vi=ii i/\i<=p.length/\p.length-i<=g/\Bw w wr/\Hid (∀j (h:j<p.length),j<i->mT p[j] (d.map Fx.fld)=true))
 case atStart=>exact ⟨0,rfl,by omega,by omega,zaR _ _,fun j _ h=>by omega⟩
 obtain ⟨i,rfl,hi,hg,C,HJ⟩:=hrel
 by_cases hlt:i<p.length
 ·have aj:(i:Int)<(p.length:Int):=by omega
  have al:(0:Int)<=i:=by omega
  obtain ⟨b,O,rfl,ak⟩:∃b O,q=some (aa b O)/\KM.At w b O p:=by
   rcases HD.o with h|h
   ·grind
   exact h
  obtain ⟨c0,c1,U⟩:=zPK (zC.at_kept ak C) i hlt;have E:=HP.o.2 _ (zaN hlt)
  have ad:mT p[i] (d.map Fx.fld)=false->r=false:=fun h=>by
   rw [<-HR.o]
   grind [zR]
  have V:mT p[i] (d.map Fx.fld)=true->∀j (h:j<p.length),j<i+1->mT p[j] (d.map Fx.fld)=true:=fun e j h hj=>by
   by_cases ej:j=i
   ·grind
   exact HJ.o j h (by omega)
  obtain ⟨x,I⟩:=eE (p[i]);rw [I] at c0 c1 U E ad V;have ah:=hid ad;have ag:=hid V;have HB:=hid C;have af:=C.size;obtain ⟨xf,xo,xt⟩:=x;simp only at c0 c1 U E;go_wp2_with fail;obtain ⟨F,hF⟩:=eE wr.heap.size;obtain ⟨W,hW⟩:=eE (wr.alloc (.cells #[tq xf,ii xo,tq xt] 239));have L:cS W F (xf,xo,xt):=by rw [<-hW,<-hF];exact zF9 wr (xf,xo,xt)
  have X:Bw w W:=by rw [<-hW];exact HB.o.alloc af _
  have s:=hid X;have G:=hid (zMT v xf d W.drew (HV.o.kept X.drew) Z.o ai.o);have an:F<W.heap.size:=L.lt;have Y:W.drew.cell? (aa F 0)=some (tq xf)/\W.drew.cell? (aa F 1)=some (ii xo)/\W.drew.cell? (aa F 2)=some (tq xt):=L.cells;have D:Hid (∀a:World,Below W.drew.heap.size W.drew a->a.cell? (aa F 0)=some (tq xf)/\a.cell? (aa F 1)=some (ii xo)/\a.cell? (aa F 2)=some (tq xt)):=fun a h=>(cS.on (w:=W.drew) L h).cells
  have N:Hid (zKd (sD (d.map Fx.fld) xf)):=by
   show zKd _
   unfold sD
   cases hfd:(d.map Fx.fld).find? (fun f=>decide (f.1=xf)) with
   | none=>exact ⟨xaE _,fun t ht=>by simp at ht⟩
   | some f =>
   obtain ⟨y,hy,rfl⟩:=List.mem_map.1 (List.mem_of_find?_eq_some hfd);exact (Z.o.2 y hy).2
  obtain ⟨m,ac⟩:=eE (sD (d.map Fx.fld) xf);rw [ac] at G N;have ab:Hid (mT (xf,xo,xt) (d.map Fx.fld)=zAv (xf,xo,xt) m):=by show _=_;unfold mT;rw [ac]
  rw [hF,hW]
  cases hB:zAv (xf,xo,xt) m with
  | true =>
   have P:Hid (mT (xf,xo,xt) (d.map Fx.fld)=true):=by show _=_;rw [ab.o,hB]
   have S:Hid (∀(c:World) l n,pA c l m->CC 193 #[.agg #[tq xf,ii xo,tq xt],sc l m.length n] c fun e a=>e=.returned (.bool true)/\yD c a):=fun c l n h=>by
    have:=zCf (xf,xo,xt) l n m c h N.o E.2.1
    grind
   go_region_held3 (fun a=>a.cell? (aa F 0)=some (tq xf)/\a.cell? (aa F 1)=some (ii xo)/\a.cell? (aa F 2)=some (tq xt))
    (first|exact Y|exact M|exact Q)
    (first
     | (go_at_call 194;refine G.o.mono ?_;rintro e K ⟨⟨sv,rfl,z⟩,k⟩;obtain ⟨pc,capc,rfl⟩:=pH z;have M:=D.out K k;have J:=tR.txtAt z)
     | (go_at_call 193;refine (S.o _ _ _ J).mono ?_;rintro e A ⟨rfl,B⟩;have Q:=D.out A (k.trans (B.below.mono k.size))))
   have R:Bw w A:=(s.o.drew.trans (k.mono (by simpa using s.o.size))).trans (B.below.mono (zaU (by simpa using s.o.size) k.size));have H:=hid R;go_wp2_with fail;go_roundg (p.length-(i+1))
   case measure=>omega
   exact ⟨i+1,by go_num,by omega,by omega,H.o,ag.o P.o⟩
  | false =>
  have P:Hid (mT (xf,xo,xt) (d.map Fx.fld)=false):=by show _=_;rw [ab.o,hB]
  have S:Hid (∀(c:World) l n,pA c l m->CC 193 #[.agg #[tq xf,ii xo,tq xt],sc l m.length n] c fun e a=>e=.returned (.bool false)/\yD c a):=fun c l n h=>by
   have:=zCf (xf,xo,xt) l n m c h N.o E.2.1
   grind
  go_region_held3 (fun a=>a.cell? (aa F 0)=some (tq xf)/\a.cell? (aa F 1)=some (ii xo)/\a.cell? (aa F 2)=some (tq xt))
   (first|exact Y|exact M|exact Q)
   (first
    | (go_at_call 194;refine G.o.mono ?_;rintro e K ⟨⟨sv,rfl,z⟩,k⟩;obtain ⟨pc,capc,rfl⟩:=pH z;have M:=D.out K k;have J:=tR.txtAt z)
    | (go_at_call 193;refine (S.o _ _ _ J).mono ?_;rintro e A ⟨rfl,B⟩;have Q:=D.out A (k.trans (B.below.mono k.size))))
  have R:Bw w A:=(s.o.drew.trans (k.mono (by simpa using s.o.size))).trans (B.below.mono (zaU (by simpa using s.o.size) k.size));have H:=hid R;go_wp2_with fail;go_ret;exact ⟨zH (ah.o P.o).symm,H.o⟩
 have aj:¬ (i:Int)<(p.length:Int):=by omega
 have H0:Hid (r=true):=by
  show _=_
  rw [<-HR.o];unfold zR;rw [xbD];intro x I;obtain ⟨j,hj,rfl⟩:=List.mem_iff_getElem.1 I;exact HJ.o j hj (by omega)
 go_wp2_with fail
 go_ret;exact ⟨zH H0.o.symm,C⟩
end
end
theorem nU {F:Fence} {n:Nat} {P:Program} (w:World) {ops:Array Oper} {rest:List Oper} {o:Oper} {a:Act} {Q:Exit->Act->World->Prop}
  (hg:o.guard=none) (s x:Operand) (t:TypeId) (hop:o.op=Op.call { callee:=Callee.builtin Builtin.append,args:=#[s,x],argTypes:=#[t,t] })
  (base:Nat) (e:TypeId) (i:TypeInfo) (z:Value) (size bytes:Nat) (h1:P.underlying t=some (.slice e)) (h2:P.info? e=some i) (h3:i.zero=some z) (h4:i.size=size) (h5:i.bytes=bytes) (h6:z.cells.size=size) (h7:0<size)
  (v:Value) (k:Nat) (xs:List Value) (hs:a.eval s=v) (hown:w.ownsRow base e size v k xs) (ad:Addr) (m c:Nat) (news:List Value) (hx:a.eval x=.slice (some ad) m c) (hn:news.length=m * size)
  (hc:∀j u,news[j]? = some u->w.cell? (ad.add j)=some u) (h1c:∀u∈news,u.oneCell'=true) (b1:k+m<=maxLen) (b2:((k+m)+(k+m) / 4+192) * bytes<=281474976710656) (b3:base<=w.heap.size)
  (hK:∀b d,d.ownsRow base e size b (k+m) (xs++news)->w.grownBy d v.ownBlock->(b=.slice none 0 0↔v=.slice none 0 0/\m=0)->wpListIn F n P ops Q rest (a.put o.dst b) d):wpListIn F n P ops Q (o::rest) a w:=by
 refine wpListIn_plain hg fun K g=>?_
 obtain ⟨b,d,p,h,f,l⟩:=run_append_own_wide (P:=P) w base t o.type e i z size bytes h1 h2 h3 h4 h5 h6 h7 v k xs hown ad m c news hn hc h1c b1 b2 b3;unfold Oper.wpIn;refine ⟨?_,?_⟩
 ·grind [Oper.about,resolve,Target.leads,Sem.run_pure]
 rw [Oper.semAt_plain F _ _ (by grind)];simp [execOp,hop,resolve,invoke,builtin,hs,hx,p,Result.andThen];exact g _ _ (hK b d h f l)
section
variable {D:List zQ} {n0 g m n:Nat} {W w:World} {G:Ky→Cm}
attribute [local go_sem] Oper.semAt_some
theorem Tryz.infoFd:(prog.info? 171).map (fun i=>(i.zero,i.size,i.bytes))=some (some (.agg #[.string ⟨#[]⟩,.string ⟨#[]⟩,.int .i64 0,.int .u64 0,.int .i64 0,.bool false,.slice none 0 0]),7,88):=by kernel_rfl
theorem zK0 (h:OkD D):D.length<=zT D:=by
 induction D with
 | nil=>grind
 | cons r d ih =>
 have b:=ih h.tail;have a:r.2.length≠0:=fun e=>(h.ok r zaH).2 (List.length_eq_zero_iff.1 e)
 grind [zT]
theorem zEO (h:OkD D) (typ:ByteArray):(sB D typ).length<=zT D:=by
 have a:(sB D typ).length<=(D.map Prod.fst).length:=xaS _ _
 grind [zK0]
theorem zDw (h:xI n0 W g m n G D) {ks:List Ky} (b:∀k∈ks,k∈D.map Prod.fst):∀k∈ks,yO k:=fun k a=>key_fit (h.key k ((wI h.ok k).1 (b k a)))
theorem gZ {α β:Type} {f g:α->Option β}:∀{l:List α},(∀x∈l,f x=g x)->l.filterMap f=l.filterMap g
 | [],_=>rfl
 | x::l,h=>by
  rw [xaN,xaN,h x zaH,gZ fun y a=>h y (xay _ a)]
theorem zKy (h:OkD D) (t:Int):tK D t (D.map Prod.fst)=pM D t:=by
 unfold tK pM;rw [List.filterMap_map];refine gZ fun r a=>?_
 grind [jM]
theorem zL3 {t:Int} {k:Ky} {x:Fnd} (h:tU t (k,ofD D k)=some x):x.1=k:=by grind [tU,atV]
theorem zBf (D:List zQ) (t:Int) (q:Ky->Bool):∀ks:List Ky,tK D t (ks.filter q)=(tK D t ks).filter fun x=>q x.1
 | []=>rfl
 | k::ks=>by
  have a:=zBf D t q ks;unfold tK at a ⊢;rw [xbr,xaN]
  cases ha:tU t (k,ofD D k) with
  | none=>grind
  | some x=>grind [zL3]
theorem zL5 (h:OkD D) (t:Int) (typ:ByteArray):tK D t (sB D typ)=(pM D t).filter fun x=>decide (x.1.1=typ):=by grind [sB,zBf,zKy]
theorem zPp (h:OkD D) (t:Int) (typ:ByteArray) (P:List Fld->Bool):(tK D t (sB D typ)).filter (fun x=>P x.2.val)=xK D typ t P:=by
 rw [zL5 h,List.filter_filter]
 grind [xK]
theorem zMd {B:Nat} {u:Value} {a:List Ky} (h:KK.Own B w u a):∃p e,u=.slice p a.length e/\∀(c:World) (d:Nat),Below w.heap.size w c->d<B->a=[]∨∃b off,p=some ⟨b,off,none⟩/\KK.At c b off a/\b≠d:=by
 rcases h.2 with ⟨rfl,j⟩|⟨g,e,k,rfl,_⟩
 ·grind
 refine ⟨_,e,rfl,fun c d f i=>xaf ⟨g,0,rfl,zC.at_kept (zC.own_at h) f,?_⟩⟩;omega
def AxX (Bf:Nat) (w:World) (sel:Fnd->Bool) (N:Nat) (A:Nat->Nat->Kx->Act) (pre:List Kx) (x:Kx) (a':Act) (W:World):Prop:=∃Bx By v fs,a'=A Bx By x/\W.heap[Bx]? = some (.cells #[.string x.1.1,.string x.1.2] 36 (0,0))/\wO W By x.2/\fJ Bf w sel pre v fs W/\GdX w.heap.size N pre x W
theorem AxX.own_from (j:Nat) (w:World) (l:Fnd->Bool) (N:Nat) (A:Nat->Nat->Kx->Act) (q:List Kx) (x:Kx) (o:Act):OwnFrom w.heap.size (fun (_:Unit) W=>AxX j w l N A q x o W):=by
 rintro _ W t u ⟨c,i,v,f,d,h,p,k,s⟩ b a;exact ⟨c,i,v,f,d,zCN h b fun r e=>(a r e).2,zCN p b fun r e=>(a r e).2,k.nc b a,s.nc b fun r e=>(a r e).2⟩
theorem AxX.lay {c:Nat} {i:Fnd->Bool} {N:Nat} {A:Nat->Nat->Kx->Act} {d:List Kx} {x:Kx} {v:Value} {f:List Fd} (h:fJ c w i d v f W) (j:GdX w.heap.size N d x W):KeepsFrom w.heap.size W ((W.alloc (.cells #[.string x.1.1,.string x.1.2] 36)).alloc (.cells (zF x.2).toArray 42))/\KpX c w.heap.size W ((W.alloc (.cells #[.string x.1.1,.string x.1.2] 36)).alloc (.cells (zF x.2).toArray 42)) /\
   AxX c w i N A d x (A W.heap.size (W.heap.size+1) x) ((W.alloc (.cells #[.string x.1.1,.string x.1.2] 36)).alloc (.cells (zF x.2).toArray 42)):=by
 have a:Bw W ((W.alloc (.cells #[tq x.1.1,tq x.1.2] 36)).alloc (.cells (zF x.2).toArray 42)):=(zaQ).alloc (by simp) _;refine ⟨zCI (P:=fun _=>False) (Fr.of_below a) fun b _ e=>e.elim,Fr.of_below a,_,_,v,f,rfl,?_,?_,h.on a,j.nc (grown_of a) fun r e=>by cases e⟩
 ·grind [Below.heap_alloc,heap_alloc_new]
 have:=xab (W.alloc (.cells #[tq x.1.1,tq x.1.2] 36)) (.cells (zF x.2).toArray 42)
 simpa [wO] using this
theorem zLa {p:World} (h:xI n0 p g m n G D) (hn:n<=1760000000000) (typ:ByteArray) (t:Int) (q:Option Addr) (s:Nat) (a:List Tm) (hp:KM.Is p (.slice q a.length s) a) (bd:qZ a):CC 85 #[.pointer (some ⟨g,0,none⟩),.string typ,.int .u64 t,.slice q a.length s] p fun e y=>zDC p (xK D typ t (zR a)) e y:=by
 obtain ⟨N,T⟩:=eE p.heap.size;obtain ⟨W2,hW2⟩:=eE ((p.alloc (.cells #[sc q a.length s] 38)).alloc (.cells #[sc none 0 0] 43));have ax:Below N p W2:=by rw [<-hW2,<-T];exact (zaQ).alloc (by simp) _
 have cc:W2.heap.size=N+2:=by rw [<-hW2,<-T];simp
 have ac:W2.heap[N]? = some (oc #[sc q a.length s] 38):=by
  rw [<-hW2,<-T,xaG _ _ _ (by simp)];exact xab p _
 have ap:W2.heap[N+1]? = some (oc #[sc none 0 0] 43):=by
  rw [<-hW2,<-T];have:=xab (p.alloc (.cells #[sc q a.length s] 38)) (.cells #[sc none 0 0] 43);simpa using this
 have ak:xI n0 W2 g m n G D:=h.on (by grind);have ai:=hid (zEW ak (by omega) typ);have bu:=zEO h.ok typ;have ca:=h.few;have al:=hid (zDw h (ks:=sB D typ) fun k hk=>(List.mem_filter.1 hk).1);have av:=hid (zPp h.ok t typ (zR a));have bl:Hid (∀b,mJ g m G D b->b<N):=fun b E=>by rw [<-T];exact (h.blk b E).2
 have bf:=hid ak;have bs:=hid ax;have HP:=hid hp;have bq:=hid bd;obtain ⟨B,aq⟩:=eE (sB D typ);rw [aq] at ai al av bu;clear h ak ax hp bd aq;refine (callsIn_wide (n:=3)).1 ?_;refine callsIn_of_wp_marks func85 rfl trivial ?_ rfl;simp only [ntmps85,xbk,xa3,xbi,Nat.reduceAdd,Nat.reduceSub,xb3,xb2,List.push_toArray,xb6,xbe,List.cons_append]
 gi_wp2
 refine ⟨trivial,?_⟩
 gi_at_call 139
 refine (callsIn_wide.2 ai.o).mono ?_;rintro e L ⟨u,rfl,au,ao⟩;have bx:=ao.size;obtain ⟨kp,kc,rfl,hrow⟩:=zMd au;have bb:=hid hrow;have bc:=hid ao;clear hrow au ao ai
 gi_wp2
 refine ⟨trivial,?_⟩
 gi_at_call 138
 refine (callsIn_wide.2 (zMN L g kp B.length kc t)).mono ?_;rintro e c ⟨rfl,O⟩;obtain ⟨M,hM⟩:=eE L.heap.size;have ay:Below M L c:=by rw [O,<-hM];exact ((zaQ).alloc (by simp) _).alloc (by simp;omega) _
 have cd:c.heap.size=M+3:=by rw [O,<-hM];simp
 have x0:c.heap[M]? = some (oc #[jp g] 86):=by
  rw [O,<-hM,xaG _ _ _ (by simp;omega),xaG _ _ _ (by simp)];exact xab L _
 have x1:c.heap[M+1]? = some (oc #[sc kp B.length kc] 46):=by
  rw [O,<-hM,xaG _ _ _ (by simp)];have:=xab (L.alloc (.cells #[jp g] 86)) (.cells #[sc kp B.length kc] 46);simpa using this
 have x2:c.heap[M+2]? = some (oc #[iu t] 24):=by
  rw [O,<-hM];have:=xab ((L.alloc (.cells #[jp g] 86)).alloc (.cells #[sc kp B.length kc] 46)) (.cells #[iu t] 24);simpa using this
 have ab:Bw W2 c:=zA bc.o bx (by grind);have be:Below N p c:=bs.o.trans (ab.mono (by omega))
 have bj:Hid (zLf n0 c g m n G D B t kp kc M (M+1) (M+2) (N+1)) :=
  ⟨bf.o.on ab,x0,x1,x2,bb.o c (N+1) (by rw [hM];exact ay) (by omega),al.o,by omega,by omega,by omega,by omega,fun E=>by have:=bl.o _ E;omega⟩
 have bw:Hid (fJ (N+1) c (fun x=>zR a x.2.val) [] (sc none 0 0) [] c) :=
  ⟨(ab.block (N+1) (by omega)).trans ap,KFd.own_nil _ _,fun f hf=>by simp at hf,rfl,zaL _,Fr.refl _ _,by omega⟩
 have bt:=hid ((ab.block N (by omega)).trans ac);have aw:=hid be;clear O ay x0 x1 x2 ab be ac ap bc bb al bf;have bv:=xaR (P:=prog) func192 (by kernel_rfl) rfl;rw [hM]
 gi_wp2
 refine nG (w:=c) rfl (by decide) (gf:=192) (lb:=#[jp (M+1),jp M,jp (M+2)]) rfl trivial bv
  (zOD 2 (by decide) bj.o) fM (fun W l o' hl _=>zP3 W l o' hl) (fun _=>rfl) (fun Y W=>∃v i,fJ (N+1) c (fun x=>zR a x.2.val) Y v i W) (fun _ _ _=>False) (fJ.own_from _ _ _) (fun _ _ _ _ _ h _ _=>h.elim) ⟨_,_,bw.o⟩
  (AxX (N+1) c (fun x=>zR a x.2.val) B.length (fun F I x=>{ tmps:=#[jp g,tq typ,iu t,sc q a.length s,undef,undef,undef,jp N,sc none 0 0,jp (N+1),jp F,jp I,jp g,jp g,tq typ,sc kp B.length kc,iu t,
   .func (.func 192) #[] #[jp (M+1),jp M,jp (M+2)],.agg #[tq x.1.1,tq x.1.2],.agg (zF x.2).toArray,undef,undef,undef,undef,undef,undef,undef,undef,undef,undef,undef],defers:=[] }))
  (fun Y x a'=>AxX.own_from _ _ _ _ _ Y x a') ?assign ?body ?done ?stop
 case assign =>
  rintro l Y ⟨⟨H,C⟩,x⟩ W K bg ⟨v,i,d⟩ z J
  obtain ⟨k1,k2,k3⟩:=AxX.lay (A:=fun F I (x:Kx)=>{ tmps:=#[jp g,tq typ,iu t,sc q a.length s,undef,undef,undef,jp N,sc none 0 0,jp (N+1),jp F,jp I,jp g,jp g,tq typ,sc kp B.length kc,iu t,
   .func (.func 192) #[] #[jp (M+1),jp M,jp (M+2)],.agg #[tq x.1.1,tq x.1.2],.agg (zF x.2).toArray,undef,undef,undef,undef,undef,undef,undef,undef,undef,undef,undef],defers:=[] }) d z
  have HK:=hid (J _ _ k1 k2 k3);obtain ⟨X,Q,xt,V,xp,xc,Z⟩:=x;simp only [zF,Vx.sl,zJt] at HK ⊢;clear J k1 k2 k3 d z
  gi_wp2
  exact HK.o
 case body =>
  rintro l Y ⟨⟨H,C⟩,x⟩ a' W bg ⟨F,I,v,i,rfl,aj,af,d,z⟩;obtain ⟨i0,hi0,hz0,hz1,hz2⟩:=xaL Tryz.infoFd;have ae:=d.fr;have bz:=ae.size;have bi:Below N p W:=aw.o.trans (ae.below (N:=N) (by omega) fun k hk=>by omega);have ac:W.heap[N]? = some (oc #[sc q a.length s] 38):=(ae.block N (by omega) (by omega)).trans bt.o;obtain ⟨hfit,hcopy⟩:=xJ z.2.1;have HM:=hid (jK (sc q a.length s) x.sl a x.o W (zC.is_kept HP.o (by grind)) bq.o z.1.1.is hfit hcopy.2);have am:Hid (zR a (zD8 ((H,C),x)).2.val=zR a (x.o.map Fx.fld)):=rfl;have ce:=d.len;have cb:=z.2.2.1;obtain ⟨vp,vc,rfl⟩:=zC.own_shape d.own;have c0:W.cell? (aa N 0)=some (sc q a.length s):=cz ac;obtain ⟨y0,y1,y2,y3,y4⟩:=wO.cells af
  have KB:Hid (∀y,Bw W y->y.cell? (aa (N+1) 0)=some (sc vp i.length vc)/\y.frozen? (aa (N+1) 0)=false/\y.cell? (aa F 0)=some (tq H)/\y.cell? (aa F 1)=some (tq C)/\wO y I x):=fun y E=>by
   have h1:=(E.block (N+1) (by omega)).trans d.box;have h2:=(E.block F (gA aj).1).trans aj;exact ⟨by rw [zaC h1];rfl,zaF h1 0,by rw [zaC h2];rfl,by rw [zaC h2];rfl,(E.block I (gA af).1).trans af⟩
  have HF:=hid d;have HG:=hid z;have HI:=hid hi0;obtain ⟨bm,ba⟩:=eE (zR a (x.o.map Fx.fld));rw [ba] at HM am;clear ae bi ac hfit hcopy d z aj hi0 ba;obtain ⟨X,Q,xt,V,xp,xc,Z⟩:=x;simp only [zF,Vx.sl] at *;clear af
  gi_wp2
  refine ⟨trivial,?_⟩
  gi_at_call 140
  refine (CallsIn.inRound l (callsIn_wide.2 HM.o)).mono ?_;rintro e U ⟨rfl,ad⟩;have bn:=ad.size;obtain ⟨z0,z1,z2,z3,z4⟩:=KB.out U ad;obtain ⟨q0,q1,q2,q3,q4⟩:=z4.cells;have ag:=hid ad;clear ad z4 y0 y1 y2 y3 y4 c0
  cases bm with
  | false =>
   gi_wp2
   obtain ⟨r1,r2,r3⟩:=zPY (x:=((H,C),⟨X,Q,xt,V,xp,xc,Z⟩)) HF.o ag.o am.o;exact ⟨r1,r2,_,_,r3⟩
  | true =>
  have ar:Hid (KFd.Own c.heap.size U (sc vp i.length vc) i):=zC.own_on HF.o.own ag.o
  have bp:Hid (∀o (R:World),(U.alloc o).grownBy R (Value.slice vp i.length vc).ownBlock->R.cell? (aa (N+1) 0)=some (sc vp i.length vc)/\R.frozen? (aa (N+1) 0)=false):=fun o R hg=>by
   have h1:R.heap[N+1]? = some (oc #[sc vp i.length vc] 43):=(hg.block (N+1) (by simp;omega) fun e=>by have:=(zaW ar.o _ e.symm).1;omega).trans ((xaG _ _ _ (by omega)).trans ((ag.o.block (N+1) (by omega)).trans HF.o.box));exact ⟨by rw [zaC h1];rfl,zaF h1 0⟩
  gi_wp2_with (first
   | (gi_at_builtin;refine nU _ rfl _ _ 43 rfl c.heap.size 171 i0 (.agg #[tq ⟨#[]⟩,tq ⟨#[]⟩,ii 0,iu 0,ii 0,.bool false,sc none 0 0]) 7 88 underlying43 HI.o hz0 hz1 hz2 rfl (by decide) _ _ _ rfl (xbp ar.o _) _ 1 1 [tq H,tq C,ii X,iu Q,ii xt,.bool V,sc xp Z.length xc] rfl rfl (fun j u hj=>KFd.newsN U ⟨H,C,⟨X,Q,xt,V,xp,xc,Z⟩⟩ _ (by simp) j u hj) (by intro u hu;simp at hu;rcases hu with rfl|rfl|rfl|rfl|rfl|rfl|rfl<;>rfl) (by unfold maxLen;omega) (by omega) (by simp;omega) ?_;intro v6 R ah an bo;obtain ⟨g6,c6,rfl⟩:=ownsRow_succ ah;obtain ⟨t0,t1⟩:=bp.out _ _ an;have bh:=hid ah;have br:=hid an;clear ah an bo))
  obtain ⟨r1,r2,r3⟩:=zPW (x:=((H,C),⟨X,Q,xt,V,xp,xc,Z⟩)) HF.o HG.o (zA ag.o bn ((zaR _ U).alloc (zaL _) _)) br.o (zC.own_snoc bh.o rfl rfl) am.o;exact ⟨r1,r2,_,_,r3⟩
 case done =>
  rintro Q W hS ⟨v,i,d⟩ J;obtain ⟨vp,vc,rfl⟩:=zC.own_shape d.own;have c0:W.cell? (aa (N+1) 0)=some (sc vp i.length vc):=by rw [zaC d.box];rfl
  have az:W.grownBy (W.putObj c.heap.size (.deferred none)) (some c.heap.size):=grownBy_putObj' W _ _;have S:=d.nc az fun r e=>by injection e with e;rw [<-e];exact ⟨zaL _,_,J,rfl⟩
  have bk:Below N p (W.putObj c.heap.size (.deferred none)):=aw.o.trans (S.fr.below (N:=N) (by omega) fun k hk=>by omega)
  have HP:Hid (zDC p (xK D typ t (zR a)) (.returned (sc vp i.length vc)) (W.putObj c.heap.size (.deferred none))):=by
   refine ⟨_,i,rfl,?_,fun f hf=>⟨?_,(S.val f hf).2⟩,?_,by grind⟩
   ·exact zC.own_weak S.own (by omega)
   ·exact zM (S.val f hf).1 (by omega)
   rw [S.eq,hS];exact av.o
  have HK:=hid J;clear d S az bk J
  gi_wp2
  refine ⟨by simp,.inl ⟨_,_,rfl,run_takeDeferred HK.o,?_⟩⟩;exact ⟨sc vp i.length vc,by simp [results,results85,go_sem],HP.o⟩
 grind
end
end Go.Proofs.YtkhljboeffhciaaGreat
namespace Go.Proofs
open Go.Shelf
def Tryz.sortFnd_ren:Go.Shelf.Ren:=⟨fun|6=>198|15=>209|14=>246|28=>258|29=>259|20=>236|21=>283|22=>284|23=>285|24=>286|25=>287|26=>288|27=>289|46=>304|47=>293|48=>294|49=>305|50=>306|57=>311|n=>n,fun|22=>43|24=>171|25=>223|3=>3|39=>294|0=>0|53=>326|55=>24|4=>4|46=>320|45=>319|50=>304|5=>5|9=>9|66=>345|70=>348|76=>357|77=>358|n=>n,fun|n=>n⟩
theorem Tryz.sortFnd:Go.Proofs.SlLaysF0.n6 prog Tryz.sortFnd_ren:={
 mixed:=by kernel_rfl
 f6:=⟨Tryz.f198.name,by decide,func198.trans (congrArg some (by kernel_rfl))⟩
 f14:=⟨Tryz.f246.name,by decide,func246.trans (congrArg some (by kernel_rfl))⟩
 f15:=func209.trans (congrArg some (by kernel_rfl))
 f20:=⟨Tryz.f236.name,by decide,func236.trans (congrArg some (by kernel_rfl))⟩
 f21:=⟨Tryz.f283.name,by decide,func283.trans (congrArg some (by kernel_rfl))⟩
 f22:=⟨Tryz.f284.name,by decide,func284.trans (congrArg some (by kernel_rfl))⟩
 f23:=⟨Tryz.f285.name,by decide,func285.trans (congrArg some (by kernel_rfl))⟩
 f24:=⟨Tryz.f286.name,by decide,func286.trans (congrArg some (by kernel_rfl))⟩
 f25:=⟨Tryz.f287.name,by decide,func287.trans (congrArg some (by kernel_rfl))⟩
 f26:=⟨Tryz.f288.name,by decide,func288.trans (congrArg some (by kernel_rfl))⟩
 f27:=⟨Tryz.f289.name,by decide,func289.trans (congrArg some (by kernel_rfl))⟩
 f28:=func258.trans (congrArg some (by kernel_rfl))
 f29:=func259.trans (congrArg some (by kernel_rfl))
 f46:=⟨Tryz.f304.name,by decide,func304.trans (congrArg some (by kernel_rfl))⟩
 f47:=func293.trans (congrArg some (by kernel_rfl))
 f48:=func294.trans (congrArg some (by kernel_rfl))
 f49:=⟨Tryz.f305.name,by decide,func305.trans (congrArg some (by kernel_rfl))⟩
 f50:=⟨Tryz.f306.name,by decide,func306.trans (congrArg some (by kernel_rfl))⟩
 f57:=⟨Tryz.f311.name,by decide,func311.trans (congrArg some (by kernel_rfl))⟩
 t0:=underlying0
 a0:=isAgg0
 z0:=sizeOf0
 v0:=zeroValue0
 t3:=underlying3
 a3:=isAgg3
 z3:=sizeOf3
 v3:=zeroValue3
 t4:=underlying4
 a4:=isAgg4
 z4:=sizeOf4
 v4:=zeroValue4
 t5:=underlying5
 a5:=isAgg5
 z5:=sizeOf5
 v5:=zeroValue5
 t9:=underlying9
 a9:=isAgg9
 z9:=sizeOf9
 v9:=zeroValue9
 t22:=underlying43
 a22:=isAgg43
 z22:=sizeOf43
 v22:=zeroValue43
 t25:=underlying223
 a25:=isAgg223
 z25:=sizeOf223
 v25:=zeroValue223
 t39:=underlying294
 a39:=isAgg294
 z39:=sizeOf294
 v39:=zeroValue294
 t45:=underlying319
 a45:=isAgg319
 z45:=sizeOf319
 v45:=zeroValue319
 t46:=underlying320
 a46:=isAgg320
 z46:=sizeOf320
 v46:=zeroValue320
 t50:=underlying304
 a50:=isAgg304
 z50:=sizeOf304
 v50:=zeroValue304
 t53:=underlying326
 a53:=isAgg326
 z53:=sizeOf326
 v53:=zeroValue326
 t55:=underlying24
 a55:=isAgg24
 z55:=sizeOf24
 v55:=zeroValue24
 t66:=underlying345
 a66:=isAgg345
 z66:=sizeOf345
 v66:=zeroValue345
 t70:=underlying348
 a70:=isAgg348
 z70:=sizeOf348
 v70:=zeroValue348
 t76:=underlying357
 a76:=isAgg357
 z76:=sizeOf357
 v76:=zeroValue357
 t77:=underlying358
 a77:=isAgg358
 z77:=sizeOf358
 v77:=zeroValue358 }
end Go.Proofs
namespace Go.Proofs.YtkhljboeffhciaaGreat
section
open Go.RowKit Go.Lib Go.Sort
def bX (x y:Fd):Int:=Z.orI (Lib.compareInt x.v.stamp y.v.stamp) (Z.cmpI x.a x.b y.a y.b)
def zBk (x y:Fnd):Bool:=decide (x.2.stamp<y.2.stamp)||(decide (x.2.stamp=y.2.stamp)&&yR x.1 y.1)
theorem zAG (x y:Fd):ltOf bX x y=zBk x.fnd y.fnd:=by
 have c:decide (Z.cmpI x.a x.b y.a y.b<0)=yR (x.a,x.b) (y.a,y.b):=by
  rw [xaO,xaQ];exact zPg (x.a,x.b) (y.a,y.b)
 show decide (bX x y<0)=(decide (x.v.stamp<y.v.stamp)||(decide (x.v.stamp=y.v.stamp)&&yR (x.a,x.b) (y.a,y.b)))
 grind [bX,Z.orI,Lib.compareInt]
theorem mI (x y:Fnd):zBk x y=true↔x.2.stamp<y.2.stamp∨(x.2.stamp=y.2.stamp/\yR x.1 y.1=true):=by
 unfold zBk;simp
theorem zRl:SWO (ltOf bX) where
 irrefl x:=by
  rw [zAG]
  cases h:zBk x.fnd x.fnd with
  | false=>rfl
  | true =>
  rcases (mI _ _).1 h with h|⟨_,h⟩
  ·omega
  rw [wX.irr] at h;cases h
 trans x y z c b:=by
  rw [zAG,mI] at *
  rcases c with c|⟨c,e⟩
  ·omega
  rcases b with b|⟨b,f⟩
  ·omega
  exact xaf ⟨by omega,wX.tr _ _ _ e f⟩
 ntrans x y z c b:=by
  rw [zAG] at *
  cases h:zBk x.fnd z.fnd with
  | false=>rfl
  | true =>
  have g:¬ zBk x.fnd y.fnd=true:=by rw [c];simp
  have d:¬ zBk y.fnd z.fnd=true:=by rw [b];simp
  rw [mI] at g d
  rcases (mI _ _).1 h with h|⟨h,k⟩
  ·omega
  have j:x.fnd.2.stamp=y.fnd.2.stamp:=by
   rcases Int.lt_trichotomy x.fnd.2.stamp y.fnd.2.stamp with a|a|a
   ·omega
   ·exact a
   omega
  have i:y.fnd.2.stamp=z.fnd.2.stamp:=by omega
  rcases wX.tot y.fnd.1 x.fnd.1 with a|a|a
  ·exact absurd (xaf ⟨i,wX.tr _ _ _ a k⟩) d
  ·grind
  grind
theorem zP0 (a:Int) (w:World):CC 290 #[.int .u64 a] w fun e b=>e=.returned (.bool false)/\b=w:=by
 go_enter func290,ntmps290
 go_wp2_with fail
 go_ret
 simp_all
theorem zP9 (a b:Int) (w:World):CC 247 #[.int .u64 a,.int .u64 b] w fun e w'=>e=.returned (.int .i64 (Lib.compareInt a b))/\w'=w:=by
 have HN:=hid zP0
 rcases Int.lt_trichotomy a b with h|h|h
 ·have hc:Lib.compareInt a b=-1:=by unfold Lib.compareInt;simp [h]
  rw [hc];go_enter func247,ntmps247;go_wp2_with (first|(go_at_call 290;refine (HN.o _ _).mono ?_;rintro e w1 ⟨rfl,rfl⟩));go_ret;exact ⟨rfl,rfl⟩
 ·have hc:Lib.compareInt a b=0:=by unfold Lib.compareInt;simp [h]
  rw [hc];subst h;go_enter func247,ntmps247;go_wp2_with (first|(go_at_call 290;refine (HN.o _ _).mono ?_;rintro e w1 ⟨rfl,rfl⟩));go_ret;exact ⟨rfl,rfl⟩
 have hn:¬ a<b:=by omega
 have hc:Lib.compareInt a b=1:=by unfold Lib.compareInt;simp [hn,h]
 rw [hc];go_enter func247,ntmps247;go_wp2_with (first|(go_at_call 290;refine (HN.o _ _).mono ?_;rintro e w1 ⟨rfl,rfl⟩));go_ret;exact ⟨rfl,rfl⟩
theorem zFz (x y:Fd) (w:World):CC 199 #[.agg (zN x).toArray,.agg (zN y).toArray] w fun e c=>e=.returned (.int .i64 (bX x y))/\yD w c:=by
 obtain ⟨f,J⟩:∃p,Lib.compareInt x.v.stamp y.v.stamp=p:=⟨_,rfl⟩;obtain ⟨p2,hp2⟩:∃p,Z.cmpI x.a x.b y.a y.b=p:=⟨_,rfl⟩;have E:Hid (bX x y=Z.orI f p2):=by show _=_;rw [<-J,<-hp2];rfl
 have F:Hid (∀w,CC 247 #[iu x.v.stamp,iu y.v.stamp] w fun e c=>e=.returned (ii f)/\c=w):=fun w=>by grind [zP9]
 have L:Hid (∀w,CC 104 #[.agg #[tq x.a,tq x.b],.agg #[tq y.a,tq y.b]] w fun e c=>e=.returned (ii p2)/\yD w c):=fun w=>by
  rw [<-hp2];exact (Z.compare_eq x.a x.b y.a y.b w).mono fun e c ⟨j,h2⟩=>⟨j,by rw [h2];exact ((((yD.refl _).alloc _).alloc _).alloc _).drewN 1⟩
 obtain ⟨g,h,n,i,t,u,q,r,A⟩:=x;obtain ⟨ya,yb,yn,ys,yt,yl,yp,yc,yo⟩:=y;simp only [zN,zF,Vx.sl] at *;obtain ⟨W,hW⟩:=eE ((w.alloc (.cells #[tq g,tq h,ii n,iu i,ii t,.bool u,sc q A.length r] 171)).alloc (.cells #[tq ya,tq yb,ii yn,iu ys,ii yt,.bool yl,sc yp yo.length yc] 171));obtain ⟨N,hN⟩:=eE w.z;have T:W.z=N+2:=by rw [<-hW,<-hN];simp
 have I:W.heap[N]? = some (oc #[tq g,tq h,ii n,iu i,ii t,.bool u,sc q A.length r] 171):=by
  rw [<-hW,<-hN];exact (xaG _ _ _ (by simp)).trans (xab w _)
 have O:W.heap[N+1]? = some (oc #[tq ya,tq yb,ii yn,iu ys,ii yt,.bool yl,sc yp yo.length yc] 171):=by
  rw [<-hW,<-hN];have:=xab (w.alloc (.cells #[tq g,tq h,ii n,iu i,ii t,.bool u,sc q A.length r] 171)) (.cells #[tq ya,tq yb,ii yn,iu ys,ii yt,.bool yl,sc yp yo.length yc] 171);rwa [xba] at this
 have P:Hid (yD w W.drew):=by rw [<-hW];exact (((yD.refl _).alloc _).alloc _).drewN 1
 have s:Hid (∀c:World,yD W.drew c->(c.cell? (aa N 0)=some (tq g)/\c.cell? (aa N 1)=some (tq h)/\c.cell? (aa N 3)=some (iu i))/\c.cell? (aa (N+1) 0)=some (tq ya)/\c.cell? (aa (N+1) 1)=some (tq yb)/\c.cell? (aa (N+1) 3)=some (iu ys)):=fun c B=>by
  have l:=(B.below.block N (show N<W.z by omega)).trans I;have j:=(B.below.block (N+1) (show N+1<W.z by omega)).trans O;rw [zaC l,zaC l,zaC l,zaC j,zaC j,zaC j]
  grind
 have D:=s.out W.drew (yD.refl _);go_enter func199,ntmps199;go_wp2_with fail;(try rw [hN]);(try rw [hW]);refine tkb (S:=fun c=>(c.cell? (aa N 0)=some (tq g)/\c.cell? (aa N 1)=some (tq h)/\c.cell? (aa N 3)=some (iu i))/\c.cell? (aa (N+1) 0)=some (tq ya)/\c.cell? (aa (N+1) 1)=some (tq yb)/\c.cell? (aa (N+1) 3)=some (iu ys)) D fun U=>?_;refine tkv4 0 1 2 3 (.pointer (some (aa N 2))) (.pointer (some (aa N 3))) (iu i) (.pointer (some (aa (N+1) 2))) U ?_;simp only [Act.put,sz];refine tkv4 4 5 7 8 (.pointer (some (aa (N+1) 3))) (iu ys) (jp N) (.agg #[tq g,tq h]) U ?_;simp only [Act.put,sz];refine tkv2 9 10 (jp (N+1)) (.agg #[tq ya,tq yb]) U ?_;simp only [Act.put,sz];refine tkc 6 fun K d=>?_
 go_simp
 refine (F.o _).mono ?_;rintro e Q ⟨rfl,rfl⟩;go_wp2_with fail;refine d.out _ _ D (fun U=>?_)
 try simp only [Act.put,sz]
 refine tkc 11 fun K d=>?_
 go_simp
 refine (L.o _).mono ?_;rintro e k ⟨rfl,m⟩;have G:=s.out k m;have C:=s.out (k.alloc (.cells #[ii f,ii p2] 3)) (m.alloc _);have M:=hid (Z.zor_any f p2 k.z (k.alloc (.cells #[ii f,ii p2] 3)) (by simp_all) (by simp_all));have H:=hid (m.alloc (.cells #[ii f,ii p2] 3));go_wp2_with fail;refine d.out _ _ G (fun U=>?_)
 try simp only [Act.put,sz]
 refine tkc 12 fun K d=>?_
 go_simp
 refine d.out _ _ C (fun U=>?_)
 try simp only [Act.put,sz]
 refine tkc 13 fun K d=>?_
 go_simp
 refine M.o.mono ?_;rintro e R ⟨rfl,rfl⟩;go_wp2_with fail;refine d.out _ _ C (fun U=>?_)
 try simp only [Act.put,sz]
 refine tkv 14 (ii (Z.orI f p2)) U ?_;simp only [Act.put,sz];refine tkd ?_;go_wp2_with fail;go_ret;exact ⟨sK E.o.symm,P.o.trans H.o⟩
theorem zK3 (c b a:Nat) (w:World):CmpLays prog 199 #[] zN 7 bX c b a w:=fun _ _ _ _ x y=>zFz x y _
theorem zCj:∀args w,(callFunc 199 args).run prog w=.ok (.enter 199 args) w:=xaR func199 (by kernel_rfl) rfl
theorem zJQ (a b c:Nat) (d:Array Fd) (w:World) (g:HoldsK zN 7 w a b d) (f:a<w.heap.size) (i:d.size<4611686018427387904):CC 198 #[.slice (some ⟨a,b,none⟩) d.size c,.func (.func 199) #[] #[]] w fun e h =>
   e=.returned (.tuple #[])/\∃d' n os,PermIn 0 d.size d d'/\SortedIn (ltOf bX) 0 d.size d'/\h=sortWorldK zN 7 w a b n d' os:=AnyQ.slices_SortFunc Tryz.sortFnd 7 isAgg171 sizeOf171 zN (fun _=>rfl) KFd.one bX zRl 199 #[] a b c d w zCj (zK3 a b d.size w) g f i
theorem zJD (W:World):CC 198 #[.slice none 0 0,.func (.func 199) #[] #[]] W fun e w'=>e=.returned (.tuple #[])/\w'=W:=by
 have hi:∀W,CC 236 #[sc none 0 0,ii 0,ii 0,.func (.func 199) #[] #[]] W fun e w'=>e=.returned (.tuple #[])/\w'=W:=fun W=>by
  go_enter func236,ntmps236
  go_wp2_with fail
  refine xaD 1 ?_;rw [xav];go_wp2_with fail
  go_end0
  grind
 have HI:=hid hi;clear hi
 have hp:∀(l:Int) W,CC 246 #[sc none 0 0,ii 0,ii 0,ii l,.func (.func 199) #[] #[]] W fun e w'=>e=.returned (.tuple #[])/\w'=W:=fun l W=>by
  go_enter func246,ntmps246
  go_wp2_with fail
  refine xaD 1 ?_;rw [xav];go_wp2_with (first|(go_at_call 236;refine (HI.o _).mono ?_;rintro e w1 ⟨rfl,rfl⟩));refine zaB (xbV (h:=results246) _ _ _) rfl ?_
  grind
 have HP:=hid hp;clear hp;go_enter func198,ntmps198;go_wp2_with (first|(go_at_call 209;refine (Tryz.bits_Len 0 _ (by omega) (by omega)).mono ?_;rintro e w1 ⟨rfl,rfl⟩)|(go_at_call 246;refine (HP.o _ _).mono ?_;rintro e w1 ⟨rfl,rfl⟩))
 go_end0
 grind
def fK (l:List Fnd):Prop:=l.Pairwise fun a b=>zBk b a=false
theorem zFQ {B:Nat} {w:World} {u:Value} {fs:List Fd} (h:KFd.Own B w u fs) (hl:fs.length<=2400000000000) (hB:B<=w.heap.size):CC 198 #[u,.func (.func 199) #[] #[]] w fun e w'=>e=.returned (.tuple #[])/\∃l:List Fd,KFd.Own B w' u l/\l.Perm fs/\fK (l.map Fd.fnd)/\Fr (fun b=>u.ownBlock=some b) w w':=by
 rcases h.2 with ⟨rfl,hz⟩|⟨g,cap,cur,rfl,_⟩
 ·obtain rfl:=List.length_eq_zero_iff.1 hz
  refine (zJD w).mono ?_
  rintro e w' ⟨rfl,rfl⟩
  exact ⟨rfl,[],h,xbU _,xan,Fr.refl _ _⟩
 have hge:=zC.own_ge h
 have hH:HoldsK zN 7 w g 0 fs.toArray:=zC.own_holds h
 have:=zJQ g 0 cap fs.toArray w hH hge.2.1 (by simp;omega)
 simp only [xbk] at this
 refine this.mono ?_
 rintro e w' ⟨rfl,d',n,os,hp,hs,rfl⟩
 obtain ⟨h1,_,h3⟩:=hp
 have hsz:d'.size=fs.length:=by simpa using h1
 have hperm:d'.toList.Perm fs:=by
  have e1:(d'.extract 0 fs.length).toList=d'.toList:=by rw [<-hsz];simp
  have e2:(fs.toArray.extract 0 fs.length).toList=fs:=by simp
  rw [e1,e2] at h3
  exact h3
 refine ⟨rfl,d'.toList,zC.own_sorted h d' hsz n os,hperm,?_,?_⟩
 ·refine List.pairwise_map.2 (List.pairwise_iff_getElem.2 fun i j hi hj hij=>?_)
  have hi':i<d'.size:=by simpa using hi
  have hj':j<d'.size:=by simpa using hj
  have:=hs i j (xaE _) hij (by omega)
  grind [zAG]
 have hb:=gY zN 7 (B:=g) (zaR _ w) (by omega) g 0 n d' os (zaL _)
 refine ⟨hb.os,hb.tape,hb.output,hb.size,fun k hk hn=>?_⟩
 have hkg:k≠g:=fun e=>hn (by rw [e];rfl)
 grind [sortWorldK,Sort.grow,putRowK,putRow,mapBlock,Sort.ahead]
end
section
variable {D:List zQ} {N M Kb:Nat} {w w' W wr W':World} {v u vk:Value} {fs:List Fd} {o:List Vx} {keys:List Ky} {acc:List Fnd} {k:Ky}
def vT (D:List zQ) (t:Int) (ks:List Ky):List Fnd:=ks.flatMap fun k=>(vK (ofD D k) t).map fun v=>(k,v)
theorem zBY (D:List zQ) (t:Int) (ks:List Ky) (k:Ky):vT D t (ks++[k])=vT D t ks++(vK (ofD D k) t).map fun v=>(k,v):=by grind [vT]
theorem zFw (D:List zQ) (t:Int) (ks:List Ky) (i:Nat):(vT D t (ks.take i)).length<=(vT D t ks).length:=by grind [vT,List.take_append_drop]
theorem zCX (h:OkD D) (t:Int) {ks:List Ky} (a:ks.Nodup) (b:∀k∈ks,ofD D k≠[]):(vT D t ks).length<=zT D:=by
 have c:(vT D t ks).length<=(ks.map fun k=>(ofD D k).length).sum:=by
  unfold vT
  induction ks with
  | nil=>simp
  | cons k ks ih=>grind [vK]
 exact zaU c (fQ h List.length a b)
theorem zB9 (h:OkD D) (t:Int) (typ:ByteArray):vT D t (sB D typ)=wN D typ t:=by
 have a:∀r∈D,ofD D r.1=r.2:=fun r b=>jM h b
 unfold vT sB wN
 generalize ofD D=F at a
 clear h
 induction D with
 | nil=>rfl
 | cons r d ih=>grind
def zFY (W:World) (D:List zQ) (typ:ByteArray) (t:Int) (e:Ending) (w':World):Prop:=∃r,zDC W r e w'/\r.Perm (wN D typ t)/\fK r
theorem zLK (h:OkD D) {typ:ByteArray} {t:Int} {a b:Fnd} (n:a∈wN D typ t) (l:b∈wN D typ t) (m:a.1=b.1) (hs:a.2.stamp=b.2.stamp):a=b:=by
 have g:∀{x:Fnd},x∈wN D typ t->x.2∈ofD D x.1:=fun {x} c=>by
  unfold wN at c;obtain ⟨r,d,c⟩:=List.mem_flatMap.1 c;obtain ⟨v,hv,rfl⟩:=List.mem_map.1 c;rw [jM h (List.mem_filter.1 d).1];exact zBT hv
 have p:=g n;have f:=g l;rw [<-m] at f;have d:=(pW h a.1).rise;obtain ⟨i,hi,s⟩:=List.mem_iff_getElem.1 p;obtain ⟨j,hj,e2⟩:=List.mem_iff_getElem.1 f
 have y:i=j:=by
  rcases Nat.lt_trichotomy i j with e|q|e
  ·have:=zBy d e hj
   grind
  ·exact q
  have:=zBy d e hi
  grind
 grind
theorem zDV {α:Type} {K:zC α} {d:List α} (h:K.Own N w v d) (c:KFd.Own M w u fs) (g:w.grownBy w' u.ownBlock) (a:K.T≠171):K.Own N w' v d:=(mP g).row h fun k b e=>by
  obtain ⟨i,f⟩:=zV h b;obtain ⟨c2,h4⟩:=zV c e;rw [f] at h4;injection h4 with h4
  injection h4 with _ h4 _
  exact a h4
theorem gX {s:Value} {o:List Fx} (h:zW N w s o) (c:KFd.Own M w u fs) (f:w.grownBy w' u.ownBlock):zW N w' s o:=yC h (mP f) fun k b e=>by
  obtain ⟨i,g,d,a⟩:=tE h b;obtain ⟨c2,h4⟩:=zV c e;rw [d] at h4;injection h4 with h4
  injection h4 with _ h4 _
  rcases a with a|a
  ·exact absurd (a.symm.trans h4) (by decide)
  exact absurd (a.symm.trans h4) (by decide)
structure zD9 (W:World) (N:Nat) (vk:Value) (keys:List Ky) (fs:List Fd) (acc:List Fnd) (v:Value) (wr:World):Prop where
 own:KFd.Own N wr v fs
 val:∀f∈fs,zW N wr f.v.sl f.v.o/\yZ (f.v.o.map Fx.fld)=true
 eq:fs.map Fd.fnd=acc
 key:KK.Own N wr vk keys
 bel:Below N W wr
theorem zD9.on (h:zD9 W N vk keys fs acc v wr) (hs:N<=wr.heap.size) (a:Below wr.heap.size wr W'):zD9 W N vk keys fs acc v W':=⟨zC.own_on h.own a,fun f b=>⟨(h.val f b).1.on a,(h.val f b).2⟩,h.eq,zC.own_on h.key a,zA h.bel hs a⟩
theorem zD9.len (h:zD9 W N vk keys fs acc v wr):fs.length=acc.length:=by
 have:=xad List.length h.eq
 grind
structure LgJ (W:World) (N:Nat) (vk:Value) (keys:List Ky) (Kb:Nat) (k:Ky) (u:Value) (o:List Vx) (fs:List Fd) (acc:List Fnd) (v:Value) (wr:World):Prop where
 lg:zD9 W N vk keys fs acc v wr
 box:wr.heap[Kb]? = some (.cells #[.string k.1,.string k.2] 36 (0,0))
 row:KV.Own N wr u o
 each:∀x∈o,zW N wr x.sl x.o/\yZ (x.o.map Fx.fld)=true
theorem LgJ.on (h:LgJ W N vk keys Kb k u o fs acc v wr) (hs:N<=wr.heap.size) (a:Below wr.heap.size wr W'):LgJ W N vk keys Kb k u o fs acc v W':=⟨h.lg.on hs a,(a.block Kb (gA h.box).1).trans h.box,zC.own_on h.row a,fun x b=>⟨(h.each x b).1.on a,(h.each x b).2⟩⟩
theorem LgJ.push {v':Value} {i:World} (h:LgJ W N vk keys Kb k u o fs acc v wr) (hs:N<=wr.heap.size) (d:wr.grownBy i v.ownBlock) {x:Vx} (j:x∈o)
  (ho:KFd.Own N i v' (fs++[⟨k.1,k.2,x⟩])):LgJ W N vk keys Kb k u o (fs++[⟨k.1,k.2,x⟩]) (acc++[(k,x.ver)]) v' i:=by
 have n:i.heap[Kb]? = wr.heap[Kb]?:=d.block Kb (gA h.box).1 fun e=>by
  obtain ⟨c,g⟩:=zV h.lg.own e.symm;rw [h.box] at g;injection g with g
  injection g with _ g _
  exact absurd g (by decide)
 refine ⟨⟨ho,fun f a=>?_,by rw [xak,h.lg.eq];rfl,zDV h.lg.key h.lg.own d (by decide),h.lg.bel.trans ((mP d).below hs fun b m=>(zaW h.lg.own b m).1)⟩,n.trans h.box,zDV h.row h.lg.own d (by decide),fun y l=>⟨gX (h.each y l).1 h.lg.own d,(h.each y l).2⟩⟩
 rcases List.mem_append.1 a with a|a
 ·exact ⟨gX (h.lg.val f a).1 h.lg.own d,(h.lg.val f a).2⟩
 rw [xaH] at a;subst a;exact ⟨gX (h.each x j).1 h.lg.own d,(h.each x j).2⟩
end
section
variable {D E:List zQ} {typ:ByteArray} {s:Int}
def sW (D:List zQ) (fl sn t:Int) (k:Ky):Option Vr × Int:=if t<fl then (none,8) else match atV (ofD D k) (min t sn) with|some v=>(some v,0)|none=>(none,6)
def wW (D:List zQ) (fl sn t:Int) (typ:ByteArray) (P:List Fld->Bool):List Fnd × Int:=if t<fl then ([],8) else (xK D typ (min t sn) P,0)
def wR (D:List zQ) (fl sn:Int) (k:Ky) (s:Int):List Vr × Int:=if s<fl then ([],8) else ((vK (ofD D k) s).filter (fun v=>decide (v.stamp<=sn)),0)
def wJ (D:List zQ) (fl sn:Int) (typ:ByteArray) (s:Int) (L:List Fnd × Int):Prop:=if s<fl then L=([],8) else L.2=0/\∃r:List Fnd,r.Perm (wN D typ s)/\fK r/\L.1=r.filter fun x=>decide (x.2.stamp<=sn)
theorem zMR (h:OkD D) {typ:ByteArray} {t:Int} {p:Fnd->Bool} {r s:List Fnd} (c:r.Perm (wN D typ t)) (hs:s.Perm (wN E typ t)) (d:((wN D typ t).filter p).Perm ((wN E typ t).filter p)) (g:fK r) (i:fK s):r.filter p=s.filter p:=by
 have hp':(r.filter p).Perm (s.filter p):=(c.filter p).trans (d.trans (hs.filter p).symm);refine List.Perm.eq_of_pairwise (le:=fun a b=>zBk b a=false) (fun a b j k m e=>?_) (g.filter p) (i.filter p) hp';have ha':=c.mem_iff.1 (List.mem_filter.1 j).1;have hb':=c.mem_iff.1 (List.mem_filter.1 (hp'.mem_iff.2 k)).1;have f:¬ zBk b a=true:=by rw [m];simp
 have l:¬ zBk a b=true:=by rw [e];simp
 rw [mI] at f l
 have n:a.2.stamp=b.2.stamp:=by
  rcases Int.lt_trichotomy a.2.stamp b.2.stamp with q|q|q
  ·omega
  ·exact q
  omega
 have o:a.1=b.1:=by
  rcases wX.tot a.1 b.1 with q|q|q
  ·grind
  ·exact q
  grind
 grind [zLK]
theorem zI3 (h:OkD D) {fl a:Int} {typ:ByteArray} {s:Int} {L M:List Fnd × Int} (c:wJ D fl a typ s L) (b:wJ E fl a typ s M) (d:¬ s<fl->((wN D typ s).filter fun x=>decide (x.2.stamp<=a)).Perm ((wN E typ s).filter fun x=>decide (x.2.stamp<=a))):L=M:=by
 unfold wJ at c b
 by_cases hs:s<fl
 ·grind
 rw [xag hs] at c b
 grind [zMR]
def zN0 (s:Int) (D E:List zQ):Prop:=∀k,zKj s (ofD D k) (ofD E k)/\(ofD E k=[]->∀f,(ofD D k).head? = some f->f.num=1)
theorem zLP (s:Int) (D:List zQ):zN0 s D D:=fun k=>⟨zNn s _,fun h f a=>by grind⟩
theorem zOU (h:zN0 s D E) (k:Ky) {b:Int} (hs:s<b) (tick:Int) (i:Bool) (d:List Fld):zN0 s (nI D k b tick i d) E:=by
 unfold nI
 split
 ·intro c;rw [dB]
  split
  ·next e =>
   subst e;refine ⟨zOj (h _).1 hs,fun g f a=>?_⟩
   cases hd:ofD D c with
   | nil =>
    rw [hd] at a;unfold tY at a;rw [xbe] at a;injection a with a
    rw [<-a];rfl
   | cons x l =>
   refine (h _).2 g f ?_;rw [hd] at a ⊢;exact a
  exact h c
 exact h
end
structure Dn where
 snap:Int
 stamp:Int
 out:Bool
 marks:Mk
 chg:List Ch
structure Tk where
 most:Nat
 kept:List Dn
 last:Option Int
 sum:Int
def zEQ (most:Int):Nat:=(min (max most 0) 64).toNat
def zD3 (most:Int):Tk:=⟨zEQ most,[],none,0⟩
def tX (s:Int) (d:Dn):Bool:=decide (s<d.stamp)
def zRQ (l:List Dn) (s:Int) (m:Mk):Bool:=l.any fun d=>tX s d&&xD m d.chg
def zQ2 (l:List Dn) (s:Int) (m:Mk):Bool:=l.any fun d=>tX s d&&(xD m d.chg&&d.out)
def inT (l:List Dn) (s:Int) (c:List Ch):Bool:=l.any fun d=>tX s d&&xD d.marks c
def zIK (t:Tk) (s:Int) (m:Mk) (c:List Ch):Bool:=decide (s<t.sum)||zQ2 t.kept s m||(zRQ t.kept s m&&inT t.kept s c)
def yP (t:Tk) (s:Int) (m:Mk) (c:List Ch):Bool × Int:=if zIK t s m c then (false,11) else (zRQ t.kept s m,0)
def zKk (t:Tk) (d:Dn):Bool:=match t.last with|some s=>decide (d.stamp<s)|none=>false
def sN (t:Tk) (d:Dn):Tk:=if t.kept.length<t.most then ⟨t.most,t.kept++[d],some d.stamp,t.sum⟩
 else match t.kept with
  | []=>⟨t.most,[],some d.stamp,max t.sum d.stamp⟩
  | x::r=>⟨t.most,r++[d],some d.stamp,max t.sum x.stamp⟩
def nD (t:Tk) (d:Dn):Int × Tk:=if zKk t d then (8,t) else (0,sN t d)
def uS (t:Tk) (least:Int):Tk:={ t with kept:=t.kept.filter fun d=>decide (least<d.stamp) }
structure OkT (t:Tk):Prop where
 few:t.kept.length<=t.most
 rise:t.kept.Pairwise fun a b=>a.stamp<=b.stamp
 top:∀d∈t.kept,∃s,t.last=some s/\d.stamp<=s
 low:∀d∈t.kept,t.sum<=d.stamp
 sum:0<=t.sum/\(t.sum=0∨∃s,t.last=some s/\t.sum<=s)
theorem zJy (b:Int):OkT (zD3 b):=⟨xaE _,xan,fun d a=>by simp [zD3] at a,fun d a=>by simp [zD3] at a,xbo _,xac rfl⟩
theorem zDD (t:Tk) (d:Dn):(sN t d).last=some d.stamp:=by grind [sN]
theorem zCM (t:Tk) (d:Dn):(sN t d).most=t.most:=by grind [sN]
theorem zJq {t:Tk} {d:Dn} (h:zKk t d=false) {s:Int} (hs:t.last=some s):s<=d.stamp:=by grind [zKk]
theorem zNK {t:Tk} (h:OkT t) {d:Dn} (g:zKk t d=false) (m:0<=d.stamp):OkT (sN t d):=by
 have l:∀x∈t.kept,x.stamp<=d.stamp:=fun x c=>by
  obtain ⟨s,f,k⟩:=h.top x c;have:=zJq g f;omega
 have q:t.sum<=d.stamp:=by
  rcases h.sum.2 with e|⟨s,f,k⟩
  ·omega
  have:=zJq g f;omega
 refine ⟨?_,?_,fun x c=>⟨d.stamp,zDD t d,?_⟩,fun x c=>?_,?_⟩
 ·rw [zCM];have:=h.few
  grind [sN]
 ·unfold sN
  split
  ·exact List.pairwise_append.2 ⟨h.rise,xaF _ _,fun a p b n=>by grind⟩
  split
  ·exact xan
  next x r hk =>
  have i:=h.rise
  grind
 ·grind [sN]
 ·unfold sN at c ⊢
  split
  ·next hc =>
   rw [xae hc] at c
   rcases List.mem_append.1 c with c|c
   ·exact h.low x c
   grind
  next hc =>
  rw [xag hc] at c
  split
  ·grind
  next y r hk =>
  rw [hk] at c;show max t.sum y.stamp<=x.stamp;have o:=l y (by grind)
  rcases List.mem_append.1 c with c|c
  ·have j:=h.low x (by grind);have i:=h.rise
   grind [List.pairwise_cons]
  grind
 have j:=h.sum.1
 grind [sN]
theorem zKF {t:Tk} (h:OkT t) (d:Dn) (a:0<=d.stamp):OkT (nD t d).2:=by grind [nD,zNK]
theorem zDB {t:Tk} (h:OkT t) (b:Int):OkT (uS t b):=⟨zaU (xaS _ _) h.few,h.rise.sublist xbG,fun d a=>h.top d (List.mem_filter.1 a).1,fun d a=>h.low d (List.mem_filter.1 a).1,h.sum⟩
def qM {β:Type} (x:Ky × β):List (Ky × β)->List (Ky × β)
 | []=>[x]
 | y::r=>if yR x.1 y.1 then x::y::r else y::qM x r
section
variable {β:Type}
theorem zAY (x:Ky × β):∀l:List (Ky × β),(qM x l).length=l.length+1
 | []=>rfl
 | y::r=>by
  unfold qM
  split
  ·rfl
  rw [xa3,zAY x r,xa3]
theorem pL (x z:Ky × β):∀l:List (Ky × β),z∈qM x l↔z=x∨z∈l
 | []=>by simp [qM]
 | y::r=>by
  unfold qM
  split
  ·rw [List.mem_cons]
  rw [List.mem_cons,pL x z r,List.mem_cons]
  grind
def jR (l:List (Ky × β)):Prop:=l.Pairwise fun x y=>yR y.1 x.1=false
theorem zRK {a b:Ky} (h:yR a b=true):yR b a=false:=by
 cases e:yR b a
 ·rfl
 have:=wX.tr _ _ _ h e;rw [wX.irr] at this
 cases this
theorem zQj {a b c:Ky} (h:yR b a=false) (k:yR c b=false):yR c a=false:=by
 cases e:yR c a
 ·rfl
 rcases wX.tot b a with d|d|d
 ·grind
 ·grind
 have:=wX.tr _ _ _ e d
 grind
theorem zAl (x:Ky × β):∀{l:List (Ky × β)},jR l->jR (qM x l)
 | [],_=>List.pairwise_cons.2 ⟨fun _ h=>by simp at h,xan⟩
 | y::r,h=>by
  obtain ⟨c,a⟩:=List.pairwise_cons.1 h;unfold qM
  split
  ·next hx =>
   refine List.pairwise_cons.2 ⟨fun z b=>?_,h⟩
   grind [zRK,zQj]
  next hx =>
  refine List.pairwise_cons.2 ⟨fun z b=>?_,zAl x a⟩
  grind [pL]
def nK (l:List (Ky × β)):List (Ky × β):=l.foldl (fun a x=>qM x a) []
theorem zCl (l:List (Ky × β)):∀a,jR a->jR (l.foldl (fun a x=>qM x a) a)/\(l.foldl (fun a x=>qM x a) a).length=a.length+l.length/\∀z,z∈l.foldl (fun a x=>qM x a) a↔z∈a∨z∈l:=by
 induction l with
 | nil=>grind
 | cons x l ih=>grind [zAl,zAY,pL]
theorem cU (l:List (Ky × β)):jR (nK l):=(zCl l [] xan).1
theorem zM1 (l:List (Ky × β)):(nK l).length=l.length:=by
 have:=(zCl l [] xan).2.1
 grind [nK]
theorem zEL (l:List (Ky × β)) (z:Ky × β):z∈nK l↔z∈l:=by
 have:=(zCl l [] xan).2.2 z
 grind [nK]
theorem zB6 (x:Ky × β) (k:Ky):∀{l:List (Ky × β)},jR l->(qM x l).filter (fun y=>decide (y.1=k))=l.filter (fun y=>decide (y.1=k))++[x].filter (fun y=>decide (y.1=k))
 | [],_=>by simp [qM]
 | y::r,h=>by
  obtain ⟨d,c⟩:=List.pairwise_cons.1 h;unfold qM
  split
  ·next hx =>
   by_cases e:x.1=k
   ·have:∀z∈y::r,decide (z.1=k)=false:=fun z a=>by
     refine xar fun b=>?_
     rw [<-e] at b
     rcases List.mem_cons.1 a with rfl|a
     ·rw [b,wX.irr] at hx;cases hx
     grind
    grind [List.filter_eq_nil_iff]
   grind
  rw [xbr,zB6 x k c]
  grind
theorem zAQ (l:List (Ky × β)) (k:Ky):(nK l).filter (fun y=>decide (y.1=k))=l.filter (fun y=>decide (y.1=k)):=by
 suffices h:∀a,jR a->(l.foldl (fun a x=>qM x a) a).filter (fun y=>decide (y.1=k))=a.filter (fun y=>decide (y.1=k))++l.filter (fun y=>decide (y.1=k)) by
  have:=h [] xan
  grind [nK]
 induction l with
 | nil=>grind
 | cons x l ih =>
 intro a b;rw [xal,ih _ (zAl x b),zB6 x k b,List.append_assoc,<-xaV];rfl
theorem zDQ:∀{l m:List (Ky × β)},jR l->jR m->(∀k,l.filter (fun y=>decide (y.1=k))=m.filter (fun y=>decide (y.1=k)))->l=m
 | [],[],_,_,_=>rfl
 | [],y::m,_,_,h=>by have:=h y.1;simp at this
 | x::l,[],_,_,h=>by have:=h x.1;simp at this
 | x::l,y::m,hl,hm,h=>by
  obtain ⟨j,f⟩:=List.pairwise_cons.1 hl;obtain ⟨m1,m2⟩:=List.pairwise_cons.1 hm
  have d:∀{a b:List (Ky × β)},(∀k,a.filter (fun y=>decide (y.1=k))=b.filter (fun y=>decide (y.1=k)))->∀z∈a,z∈b:=fun {a b} h z hz=>by
   have i:z∈a.filter (fun y=>decide (y.1=z.1)):=List.mem_filter.2 ⟨hz,by simp⟩
   simp_all
  have g:x.1=y.1:=by
   have n:=d h x (by simp);have o:=d (fun k=>(h k).symm) y (by simp)
   rcases wX.tot x.1 y.1 with e|e|e
   ·grind
   ·exact e
   grind
  have c:=h x.1;rw [xbr,xae (by simp),xbr,xae (by simp [g])] at c;injection c with e0 _
  subst e0
  congr 1
  refine zDQ f m2 fun k=>?_
  have:=h k
  grind
theorem zGu {l m:List (Ky × β)} (a:jR m) (h:∀k,m.filter (fun y=>decide (y.1=k))=l.filter (fun y=>decide (y.1=k))):m=nK l:=zDQ a (cU l) fun k=>(h k).trans (zAQ l k).symm
end
abbrev Wr:=Option (List Fld)
abbrev yI:=Ky × Wr
def yH:List yI->Ky->Option Wr
 | [],_=>none
 | y::r,k=>if y.1=k then some y.2 else yH r k
def qX (L:List yI) (k:Ky):List yI:=L.filter fun y=>!decide (y.1=k)
def pB (L:List yI) (k:Ky) (e:Wr):List yI:=qM (k,e) (qX L k)
structure OkW (L:List yI):Prop where
 rise:L.Pairwise fun x y=>yR x.1 y.1=true
 key:∀y∈L,xN y.1.1 y.1.2=true
 may:∀y∈L,∀v,y.2=some v->yZ v=true
theorem zKK:OkW []:=⟨xan,fun _ h=>by simp at h,fun _ h=>by simp at h⟩
theorem zDq {k:Ky}:∀{L:List yI},yH L k=none↔∀y∈L,y.1≠k
 | []=>by simp [yH]
 | y::r=>by
  unfold yH
  split
  ·grind
  next h=>simp [h,zDq (L:=r)]
theorem uV {k:Ky} {e:Wr}:∀{L:List yI},yH L k=some e->(k,e)∈L
 | [],h=>by simp [yH] at h
 | y::r,h=>by
  unfold yH at h
  split at h
  ·grind
  exact xay _ (uV h)
theorem fY {y:yI}:∀{L:List yI},(L.Pairwise fun x y=>yR x.1 y.1=true)->y∈L->yH L y.1=some y.2
 | [],_,h=>by simp at h
 | z::r,hp,h=>by
  obtain ⟨a,b⟩:=List.pairwise_cons.1 hp;unfold yH
  rcases List.mem_cons.1 h with rfl|h
  ·rw [xae rfl]
  rw [xag,fY b h];intro e;have:=a y h;rw [e,wX.irr] at this
  cases this
theorem fL (L:List yI) (k j:Ky):yH (qX L k) j=if j=k then none else yH L j:=by
 induction L with
 | nil=>simp [qX,yH]
 | cons y r ih=>grind [qX,yH]
theorem zGY {x:yI} (j:Ky):∀{L:List yI},(∀y∈L,y.1≠x.1)->yH (qM x L) j=if j=x.1 then some x.2 else yH L j
 | [],_=>by grind [qM,yH]
 | y::r,h=>by
  unfold qM
  split
  ·grind [yH]
  unfold yH;rw [zGY j (fun z a=>h z (xay _ a))]
  grind
theorem zJa {L:List yI} {k:Ky}:∀y∈qX L k,y.1≠k:=fun y a=>by
 have:=(List.mem_filter.1 a).2
 grind
theorem fE (L:List yI) (k j:Ky) (e:Wr):yH (pB L k e) j=if j=k then some e else yH L j:=by
 unfold pB;rw [zGY j (x:=(k,e)) zJa,fL]
 grind
theorem zHV {x:yI}:∀{L:List yI},(L.Pairwise fun x y=>yR x.1 y.1=true)->(∀y∈L,y.1≠x.1)->(qM x L).Pairwise fun x y=>yR x.1 y.1=true
 | [],_,_=>List.pairwise_cons.2 ⟨fun _ h=>by simp at h,xan⟩
 | y::r,h,hn=>by
  obtain ⟨c,d⟩:=List.pairwise_cons.1 h;unfold qM
  split
  ·next hx =>
   refine List.pairwise_cons.2 ⟨fun z a=>?_,h⟩
   rcases List.mem_cons.1 a with rfl|a
   ·exact hx
   exact wX.tr _ _ _ hx (c z a)
  next hx =>
  refine List.pairwise_cons.2 ⟨fun z a=>?_,zHV d fun z a=>hn z (xay _ a)⟩
  rcases (pL x z r).1 a with rfl|a
  ·rcases wX.tot y.1 z.1 with b|b|b
   ·exact b
   ·grind
   grind
  grind
theorem zFN {L:List yI} (h:OkW L) (k:Ky):OkW (qX L k):=⟨h.rise.sublist xbG,fun y a=>h.key y (List.mem_filter.1 a).1,fun y a=>h.may y (List.mem_filter.1 a).1⟩
theorem zFU {L:List yI} (h:OkW L) (k:Ky) (e:Wr) (d:xN k.1 k.2=true) (f:∀v,e=some v->yZ v=true):OkW (pB L k e):=by
 have b:=zFN h k;refine ⟨zHV b.rise zJa,fun y a=>?_,fun y a v c=>?_⟩
 ·rcases (pL _ y _).1 a with rfl|a
  ·exact d
  exact b.key y a
 rcases (pL _ y _).1 a with rfl|a
 ·exact f v c
 exact b.may y a v c
theorem zGZ (L:List yI) (k:Ky):(qX L k).length<=L.length:=xaS _ _
theorem zFf (L:List yI) (k:Ky) (e:Wr):(pB L k e).length<=L.length+1:=by grind [pB,zAY,zGZ]
def tB (k:Ky) (v:List Fld):Int:=if xN k.1 k.2=false then 2 else if yZ v=false then 3 else 0
def zAg (k:Ky):Int:=if xN k.1 k.2=false then 2 else 0
def mE (L:List yI) (k:Ky) (v:List Fld):List yI:=if tB k v=0 then pB L k (some v) else L
def zOK (L:List yI) (k:Ky):List yI:=if zAg k=0 then pB L k none else L
def xM (o:Option Wr):Bool:=match o with|some (some _)=>true|_=>false
def jZ (o:Option Wr):List Fld:=match o with|some (some v)=>v|_=>[]
theorem zGS {k:Ky} {v:List Fld} (h:tB k v=0):xN k.1 k.2=true/\yZ v=true:=by grind [tB]
theorem zPT {L:List yI} (h:OkW L) (k:Ky) (v:List Fld):OkW (mE L k v):=by
 unfold mE
 split
 ·next hc=>exact zFU h k _ (zGS hc).1 fun u a=>by grind [zGS]
 exact h
theorem zNu (L:List yI) (k:Ky) (v:List Fld):(mE L k v).length<=L.length+1:=by grind [mE,zFf]
theorem zMc (L:List yI) (k j:Ky) (v:List Fld):yH (mE L k v) j=if tB k v=0/\j=k then some (some v) else yH L j:=by
 unfold mE
 by_cases hc:tB k v=0
 ·rw [xae hc,fE]
  grind
 grind
def xH (L:List yI):List Ky:=L.map (·.1)
def sI (L:List yI) (fs:List (Ky × Vr)):List (Ky × Vr):=fs.filter fun f=>(yH L f.1).isNone
def zCR (typ:ByteArray) (m:List Fld->Bool) (y:yI):Option (Ky × Vr):=match y.2 with
 | some v=>if y.1.1=typ/\m v=true then some (y.1,⟨0,0,0,true,v⟩) else none
 | none=>none
def gW (L:List yI) (typ:ByteArray) (m:List Fld->Bool):List (Ky × Vr):=L.filterMap (zCR typ m)
def wQ (L:List yI) (fs:List (Ky × Vr)) (typ:ByteArray) (m:List Fld->Bool):List (Ky × Vr):=nK (sI L fs++gW L typ m)
theorem zHm (L:List yI) (a:List (Ky × Vr)) (typ:ByteArray) (m:List Fld->Bool):jR (wQ L a typ m):=cU _
theorem zLx (L:List yI) (a:List (Ky × Vr)) (typ:ByteArray) (m:List Fld->Bool):(wQ L a typ m).length=(sI L a).length+(gW L typ m).length:=by grind [wQ,zM1]
theorem zBU {L:List yI} {typ:ByteArray} {m:List Fld->Bool} {f:Ky × Vr} (h:f∈gW L typ m):∃v,(f.1,some v)∈L/\f.1.1=typ/\m v=true/\f.2=⟨0,0,0,true,v⟩:=by
 obtain ⟨y,b,a⟩:=List.mem_filterMap.1 h
 grind [zCR]
abbrev Sn:=List (Option Int)
def atQ (os:Sn) (id:Int):Option Int:=if 1<=id then (os[(id-1).toNat]?).join else none
def yM (os:Sn) (id:Int):Sn:=if 1<=id then os.set (id-1).toNat none else os
def yY (os:Sn):Nat:=os.countP Option.isSome
def zOG (m:Int) (o:Option Int):Int:=match o with|some s=>if s<m then s else m|none=>m
def yJ (os:Sn) (now:Int):Int:=os.foldl zOG now
def zP6 (os:Sn) (f:Int):Bool:=os.any fun o=>match o with|some s=>decide (s<f)|none=>false
def bR (os:Sn) (fl x:Int):(Int × Int) × Sn:=if x<fl then ((0,8),os) else (((os.length:Int)+1,0),os++[some x])
def mN (os:Sn) (fl f:Int):Int × Int:=if f<fl then (8,fl) else if zP6 os f then (1,fl) else (0,f)
theorem zQk {os:Sn} {a:Int} (h:(os.length:Int)<a):atQ os a=none:=by
 unfold atQ
 split
 ·rw [xaz (by omega)];rfl
 rfl
theorem zRa {os:Sn} {i:Nat} (h:i<os.length):atQ os ((i:Int)+1)=os[i]:=by grind [atQ]
theorem zOb (os:Sn) (x a:Int):atQ (os++[some x]) a=if a=(os.length:Int)+1 then some x else atQ os a:=by
 unfold atQ
 by_cases h1:1<=a
 ·rw [xae h1,xae h1]
  by_cases e:a=(os.length:Int)+1
  ·simp_all
  rw [xag e]
  rcases xbd (a-1).toNat os.length with h|h
  ·rw [xa7 h]
  rw [List.getElem?_append_right h,xaz (l:=os) h,xaz (by simp;omega)]
 grind
theorem zLi (os:Sn) (x a:Int):atQ (yM os x) a=if a=x then none else atQ os a:=by
 unfold yM
 by_cases hx:1<=x
 ·rw [xae hx];unfold atQ
  by_cases h1:1<=a
  ·rw [xae h1,xae h1,xbS]
   by_cases e:a=x
   ·grind
   rw [xag e,xag (by omega)]
  grind
 grind [atQ]
theorem bB (os:Sn) (x:Int):(yM os x).length=os.length:=by grind [yM]
theorem zBV {os:Sn} {x:Int} (h:atQ os x=none):yM os x=os:=by
 unfold yM;unfold atQ at h
 by_cases hx:1<=x
 ·rw [xae hx] at h ⊢
  rcases xbd (x-1).toNat os.length with k|k
  ·rw [xai k] at h;have a:os[(x-1).toNat]=none:=h;apply xaU;intro j;rw [xbS]
   grind
  exact xbl k
 grind
theorem zBI (m s:Int):zOG m (some s)=if s<m then s else m:=rfl
theorem bD (o:Option Int) (os:Sn) (a:Int):yJ (o::os) a=yJ os (zOG a o):=rfl
theorem zQF (m:Int) (o:Option Int):zOG m o<=m:=by
 cases o with
 | none=>exact xbo _
 | some s=>grind [zBI]
theorem zCw (os:Sn):∀a,yJ os a<=a:=by
 induction os with
 | nil=>intro a;exact xbo _
 | cons o os ih=>intro a;rw [bD];exact Int.le_trans (ih _) (zQF _ _)
theorem jG {os:Sn} {s:Int} (h:some s∈os) (a:Int):yJ os a<=s:=by
 induction os generalizing a with
 | nil=>cases h
 | cons o os ih =>
 rw [bD]
 rcases List.mem_cons.1 h with e|h
 ·subst e;refine Int.le_trans (zCw _ _) ?_
  grind [zBI]
 grind
theorem zAR (os:Sn):∀a,yJ os a=a∨some (yJ os a)∈os:=by
 induction os with
 | nil=>intro a;exact xac rfl
 | cons o os ih =>
 intro a;rw [bD]
 rcases ih (zOG a o) with h|h
 ·rw [h]
  cases o with
  | none=>exact xac rfl
  | some s=>grind [zBI]
 grind
theorem zJc (os:Sn) (f:Int):zP6 os f=true↔∃s,some s∈os/\s<f:=by grind [zP6]
theorem zKt (os:Sn) (f:Int):zP6 os f=decide (yJ os f<f):=by
 rw [xaO,zJc,xaQ];constructor
 ·rintro ⟨s,a,h⟩;have:=jG a f;omega
 grind [zAR]
theorem zIv (os:Sn) (x:Int):yY (os++[some x])=yY os+1:=by grind [yY]
theorem zI2:∀(os:Sn) (i:Nat) (h:i<os.length),yY (os.set i none)+(if (os[i]).isSome then 1 else 0)=yY os
 | o::os,0,_=>by grind [yY]
 | o::os,i+1,h=>by grind [yY]
theorem zG1 (os:Sn) (x:Int):yY (yM os x)+(if (atQ os x).isSome then 1 else 0)=yY os:=by
 cases hq:atQ os x with
 | none=>rw [zBV hq];simp
 | some s =>
 have b:1<=x:=Classical.byContradiction fun h=>by grind [atQ]
 have a:(x-1).toNat<os.length:=Classical.byContradiction fun h=>by
  unfold atQ at hq
  simp_all
 have c:os[(x-1).toNat]=some s:=by
  unfold atQ at hq;rw [xae b,xai a] at hq;exact hq
 have:=zI2 os (x-1).toNat a
 grind [yM]
def OkQ (os:Sn) (fl:Int):Prop:=(0<=fl/\fl<=18446744073709551615)/\∀s,some s∈os->fl<=s/\s<=18446744073709551615
theorem zMg {os:Sn} {fl a:Int} (h:OkQ os fl) (b:fl<=a):fl<=yJ os a:=by
 rcases zAR os a with e|e
 ·omega
 exact (h.2 _ e).1
theorem zH0 {os:Sn} {fl a:Int}:mN os fl (yJ os a)=if yJ os a<fl then (8,fl) else (0,yJ os a):=by
 unfold mN
 split
 ·rfl
 rw [xag];intro h;obtain ⟨s,b,k⟩:=(zJc _ _).1 h;have:=jG b a;omega
structure Tx where
 snap:Int
 ended:Bool
 marks:Mk
 wr:List yI
 deriving Inhabited
structure Sv where
 vers:Int
 D:List zQ
 last:Int
 tick:Int
 floor:Int
 tk:Tk
 txs:List Tx
def tD:Int:=18446744073709551615
def xR (S:Sv):Sn:=S.txs.map fun x=>if x.ended then none else some x.snap
def zP (S:Sv):Int:=yJ (xR S) S.last
def yA (S:Sv) (i:Nat) (x:Tx):Sv:={ S with txs:=S.txs.set i x }
def pJ (vers most tries:Int):Bool:=decide (1<=vers)&&decide (vers<=4096)&&decide (0<=most)&&decide (most<=64)&&decide (1<=tries)&&decide (tries<=8)
def zLc (vers most first:Int):Sv:=⟨vers,[],first,0,0,zD3 most,[]⟩
def jA (s:Int):Tx:=⟨s,false,([],[]),[]⟩
def vG (S:Sv):Sv:={ S with txs:=S.txs++[jA S.last] }
def wE (now n:Int):Int:=if n<1 then now else if 1099511627776-now<=n then 1099511627776 else now+n
def uH (S:Sv):Sv:={ S with floor:=zP S,D:=wB S.D (zP S) }
def xT (D:List zQ) (s:Int) (k:Ky):Option Vr:=atV (ofD D k) s
def isS (D:List zQ) (x:Tx) (k:Ky):Option Vr:=match yH x.wr k with
 | none=>xT D x.snap k
 | some e=>some ⟨((xT D x.snap k).getD zeroV).num+1,0,0,xM (some e),jZ (some e)⟩
def zJs (D:List zQ) (x:Tx) (typ:ByteArray):List Ky:=((xH x.wr).filter fun k=>decide (k.1=typ)).foldl (fun acc k=>qJ yR k acc) (sB D typ)
def zGR (D:List zQ) (x:Tx) (P:List Fld->Bool) (k:Ky):Option Fnd:=match isS D x k with
 | some v=>if v.live&&P v.val then some (k,v) else none
 | none=>none
def cG (D:List zQ) (x:Tx) (typ:ByteArray) (P:List Fld->Bool):List Fnd:=(zJs D x typ).filterMap (zGR D x P)
def zNA (D:List zQ) (s:Int) (y:yI):Ch:=⟨y.1,((xT D s y.1).getD zeroV).live,((xT D s y.1).getD zeroV).val,xM (some y.2),jZ (some y.2)⟩
def zD (D:List zQ) (x:Tx):List Ch:=if x.ended then [] else x.wr.map (zNA D x.snap)
def sF (D:List zQ) (fl sn:Int) (typ:ByteArray) (s:Int):List Fnd × Int:=if s<fl then ([],8) else ((zRE D typ s).filter (fun x=>decide (x.2.stamp<=sn)),0)
def pU (x:Tx) (k:Ky):Tx:={ x with marks:=kA x.marks k }
def zHp (x:Tx) (typ:ByteArray) (p:List Tm):Tx:={ x with marks:=sU x.marks (typ,p) }
def tM (D:List zQ) (x:Tx) (k:Ky):(Option Vr × Int) × Tx:=if x.ended then ((none,12),x) else if xN k.1 k.2=false then ((none,2),x) else ((isS D x k,if (isS D x k).isSome then 0 else 6),pU x k)
def qA (D:List zQ) (x:Tx) (typ:ByteArray) (p:List Tm):(List Fnd × Int) × Tx:=if x.ended then (([],12),x) else if nJ p≠0 then (([],nJ p),x) else ((cG D x typ (zR (xY p)),0),zHp x typ (xY p))
def wA (x:Tx) (k:Ky) (v:List Fld):Int × Tx:=if x.ended then (12,x) else (tB k v,{ x with wr:=mE x.wr k v })
def vC (D:List zQ) (x:Tx) (k:Ky):Int × Tx:=if x.ended then (12,x) else if xN k.1 k.2=false then (2,x)
 else if ((isS D x k).getD zeroV).live=false then (6,pU x k)
 else if ((xT D x.snap k).getD zeroV).live=false then (0,{ pU x k with wr:=qX x.wr k })
 else (0,{ pU x k with wr:=pB x.wr k none })
def nS (x:Tx):Tx:=if x.ended then x else { x with wr:=[] }
def atS (D:List zQ) (fl:Int) (x:Tx) (t:Int) (k:Ky):(Option Vr × Int) × Tx:=if x.ended then ((none,12),x) else if xN k.1 k.2=false then ((none,2),x)
 else (sW D fl x.snap t k,if (sW D fl x.snap t k).2≠8/\x.snap<t then pU x k else x)
def mB (D:List zQ) (fl:Int) (x:Tx) (t:Int) (typ:ByteArray) (p:List Tm):(List Fnd × Int) × Tx:=if x.ended then (([],12),x) else if nJ p≠0 then (([],nJ p),x)
 else (wW D fl x.snap t typ (zR (xY p)),if (wW D fl x.snap t typ (zR (xY p))).2≠8/\x.snap<t then zHp x typ (xY p) else x)
def nL (D:List zQ) (fl:Int) (x:Tx) (k:Ky) (s:Int):(List Vr × Int) × Tx:=if x.ended then (([],12),x) else if xN k.1 k.2=false then (([],2),x)
 else (wR D fl x.snap k s,if (wR D fl x.snap k s).2≠8 then pU x k else x)
def sS (D:List zQ) (fl:Int) (x:Tx) (typ:ByteArray) (s:Int):(List Fnd × Int) × Tx:=if x.ended then (([],12),x)
 else (sF D fl x.snap typ s,if (sF D fl x.snap typ s).2≠8 then zHp x typ [] else x)
def vL (D:List zQ) (x:Tx) (k:Ky) (n:Int):(Option Vr × Int) × Tx:=if x.ended then ((none,12),x) else if xN k.1 k.2=false then ((none,2),x)
 else (uJ (ofD D k) x.snap n,if (uJ (ofD D k) x.snap n).2=6 then pU x k else x)
def sX (x:Tx):Mk:=if x.ended then ([],[]) else x.marks
def yV (D:List zQ) (ch:List Ch) (n tick:Int):List zQ:=ch.foldl (fun D c=>nI D c.key n tick c.il c.is) D
def tA (D:List zQ) (s:Int) (c:Ch):Bool:=decide (s<(yF (ofD D c.key)).stamp)
def uE (S:Sv) (i:Nat) (x:Tx) (ch:List Ch) (out:Bool):Int × Sv:=let S1:=yA S i { x with ended:=true }
 let S2:=if ch=[] then S1 else { S1 with last:=S.last+1,D:=yV S.D ch (S.last+1) S.tick }
 (if ch=[] then 0 else S.last+1,if ch=[]/\x.marks=([],[]) then S2 else { S2 with tk:=uS (nD S2.tk ⟨x.snap,S2.last,out,x.marks,ch⟩).2 (zP S2) })
def zU (S:Sv) (i:Nat) (x:Tx):(Int × Int) × Sv:=if x.ended then ((0,12),S)
 else if (zD S.D x).any (tA S.D x.snap) then ((0,11),yA S i { x with ended:=true })
 else if (yP S.tk x.snap x.marks (zD S.D x)).2≠0 then ((0,11),yA S i { x with ended:=true })
 else if zD S.D x≠[]/\S.vers<(zT S.D:Int)+((zD S.D x).length:Int) then ((0,9),yA S i { x with ended:=true })
 else if zD S.D x≠[]/\S.last=tD then ((0,10),yA S i { x with ended:=true })
 else (((uE S i x (zD S.D x) (yP S.tk x.snap x.marks (zD S.D x)).1).1,0),(uE S i x (zD S.D x) (yP S.tk x.snap x.marks (zD S.D x)).1).2)
def sE (S:Sv) (i:Nat) (x:Tx):Bool × Sv:=(!x.ended,yA S i { x with ended:=true })
structure O15 where
 kind:Int
 x:Int
 key:Ky
 val:List Fld
 pred:List Tm
 t:Int
 n:Int
structure R15 where
 ver:Vr:=zeroV
 found:List Fnd:=[]
 vers:List Vr:=[]
 e:Int:=0
 stamp:Int:=0
 nums:List Int:=[]
 ok:Bool:=false
 marks:Mk:=([],[])
 chg:List Ch:=[]
def mH (S:Sv) (i:Nat) (x:Tx) (o:O15):R15 × Sv:=if o.kind=2 then ({ ver:=(tM S.D x o.key).1.1.getD zeroV,e:=(tM S.D x o.key).1.2 },yA S i (tM S.D x o.key).2)
 else if o.kind=3 then ({ found:=(qA S.D x o.key.1 o.pred).1.1,e:=(qA S.D x o.key.1 o.pred).1.2 },yA S i (qA S.D x o.key.1 o.pred).2)
 else if o.kind=4 then ({ e:=(wA x o.key o.val).1 },yA S i (wA x o.key o.val).2)
 else if o.kind=5 then ({ e:=(vC S.D x o.key).1 },yA S i (vC S.D x o.key).2)
 else if o.kind=6 then ({},yA S i (nS x))
 else if o.kind=7 then ({ ver:=(atS S.D S.floor x o.t o.key).1.1.getD zeroV,e:=(atS S.D S.floor x o.t o.key).1.2 },yA S i (atS S.D S.floor x o.t o.key).2)
 else if o.kind=8 then ({ found:=(mB S.D S.floor x o.t o.key.1 o.pred).1.1,e:=(mB S.D S.floor x o.t o.key.1 o.pred).1.2 },yA S i (mB S.D S.floor x o.t o.key.1 o.pred).2)
 else if o.kind=9 then ({ vers:=(nL S.D S.floor x o.key o.t).1.1,e:=(nL S.D S.floor x o.key o.t).1.2 },yA S i (nL S.D S.floor x o.key o.t).2)
 else if o.kind=10 then ({ found:=(sS S.D S.floor x o.key.1 o.t).1.1,e:=(sS S.D S.floor x o.key.1 o.t).1.2 },yA S i (sS S.D S.floor x o.key.1 o.t).2)
 else if o.kind=11 then ({ ver:=(vL S.D x o.key o.n).1.1.getD zeroV,e:=(vL S.D x o.key o.n).1.2 },yA S i (vL S.D x o.key o.n).2)
 else if o.kind=12 then ({ marks:=sX x },S)
 else if o.kind=13 then ({ chg:=zD S.D x },S)
 else if o.kind=14 then ({ stamp:=(zU S i x).1.1,e:=(zU S i x).1.2 },(zU S i x).2)
 else if o.kind=15 then ({ ok:=(sE S i x).1 },(sE S i x).2)
 else ({},S)
section
variable {D:List zQ} {fl s n tick last:Int} {l:List Vr} {k:Ky} {ch:List Ch} {S:Sv} {x:Tx}
theorem qE (x:Fnd):∀l:List Fnd,(qR x l).Perm (x::l)
 | []=>xbU _
 | y::l=>by
  unfold qR
  split
  ·exact ((qE x l).cons y).trans (List.Perm.swap x y l)
  simp_all
theorem zA3:∀(l b:List Fnd),(l.foldl (fun a x=>qR x a) b).Perm (b++l)
 | [],b=>by simp
 | x::l,b=>by
  rw [xal];refine (zA3 l _).trans ?_;refine ((qE x b).append_right l).trans ?_;exact (List.perm_middle (a:=x) (l₁:=b) (l₂:=l)).symm
theorem cM (x:Fnd):∀l:List Fnd,fK l->(∀y∈l,y.2.stamp=x.2.stamp->yR x.1 y.1=false)->fK (qR x l)
 | [],_,_=>xaF _ _
 | y::l,h,hx=>by
  obtain ⟨c,b⟩:=List.pairwise_cons.1 h;unfold qR
  split
  ·next hle =>
   refine List.pairwise_cons.2 ⟨fun z a=>?_,cM x l b fun z a=>hx z (xay _ a)⟩
   grind [qE,mI]
  next hle =>
  have d:x.2.stamp<y.2.stamp:=by omega
  refine List.pairwise_cons.2 ⟨fun z a=>?_,h⟩
  grind [zBk]
theorem zA8:∀(l c:List Fnd),fK c->l.Pairwise (fun a b=>a.2.stamp=b.2.stamp->yR b.1 a.1=false)->(∀y∈c,∀x∈l,y.2.stamp=x.2.stamp->yR x.1 y.1=false)->fK (l.foldl (fun a x=>qR x a) c)
 | [],_,h,_,_=>h
 | x::l,c,h,hp,hx=>by
  obtain ⟨f,e⟩:=List.pairwise_cons.1 hp;rw [xal];refine zA8 l _ (cM x c h fun y d=>hx y d x zaH) e fun y d z g=>?_
  grind [qE]
theorem zGE (h:OkD D) (typ:ByteArray) (t:Int):(wN D typ t).Pairwise fun a b=>a.2.stamp=b.2.stamp->yR b.1 a.1=false:=by
 unfold wN
 induction D with
 | nil=>exact xan
 | cons r d i =>
 have ih':=i h.tail;rw [xbr]
 split
 ·rw [List.flatMap_cons,xbC];refine ⟨List.pairwise_map.2 ?_,ih',fun a g b c _=>?_⟩
  ·exact (zAk (h.ok r zaH).1.rise _).imp fun {a b} hab e=>by grind
  obtain ⟨v,_,rfl⟩:=List.mem_map.1 g;obtain ⟨r',hr',c⟩:=List.mem_flatMap.1 c;obtain ⟨u,_,rfl⟩:=List.mem_map.1 c;have f:yR r.1 r'.1=true:=(List.pairwise_cons.1 h.rise).1 r'.1 (List.mem_map.2 ⟨r',(List.mem_filter.1 hr').1,rfl⟩)
  cases hq:yR r'.1 r.1 with
  | false=>rfl
  | true =>
  have:=wX.tr _ _ _ f hq;rw [wX.irr] at this;cases this
 exact ih'
theorem zNU (h:OkD D) (typ:ByteArray) (t:Int):(zRE D typ t).Perm (wN D typ t)/\fK (zRE D typ t):=⟨by have:=zA3 (wN D typ t) [];rwa [xbe] at this,zA8 _ _ xan (zGE h typ t) fun y a=>by cases a⟩
theorem zHl (h:OkD D) (fl a:Int) (typ:ByteArray) (s:Int):wJ D fl a typ s (sF D fl a typ s):=by
 unfold wJ sF
 by_cases hs:s<fl
 ·rw [xae hs,xae hs]
 rw [xag hs,xag hs]
 grind [zNU]
theorem zOc (h:OkD D) {fl a:Int} {typ:ByteArray} {s:Int} {L:List Fnd × Int} (b:wJ D fl a typ s L):L=sF D fl a typ s:=zI3 h b (zHl h fl a typ s) fun _=>xbU _
theorem zKZ (h:OkV l) {s:Int} (hs:(yF l).stamp<=s):(atV l s).getD zeroV=yF l:=by
 by_cases hn:l=[]
 ·subst hn;rfl
 have a:0<l.length:=List.length_pos_iff.2 hn
 have b:wG l s=l.length:=by
  refine zBS h.rise (zaL _) (fun i hi _=>?_) (fun i hi c=>by omega);rw [tP a] at hs
  rcases xbd i (l.length-1) with q|q
  ·have:=zBy h.rise q (by omega);omega
  grind
 unfold atV;rw [b,xag (by omega),xai (by omega),tP a];rfl
structure fF (D:List zQ) (n:Int) (ch:List Ch):Prop where
 nd:(ch.map Ch.key).Nodup
 code:∀c∈ch,wT D c.key n c.il c.is=0
theorem zKD {a:Bool} {c:List Fld} (d:wT D k n a c=0) (b:Ky):ofD (nI D k n tick a c) b=if b=k then tY (ofD D k) n tick a c else ofD D b:=by
 unfold nI;rw [xae d,dB]
theorem zOy {E:List zQ} (h:ofD D k=ofD E k) (n:Int) (a:Bool) (b:List Fld):wT D k n a b=wT E k n a b:=by
 unfold wT;rw [h]
theorem fF.tail {c:Ch} (h:fF D n (c::ch)):fF (nI D c.key n tick c.il c.is) n ch:=by
 have a:=List.nodup_cons.1 h.nd;refine ⟨a.2,fun d b=>?_⟩;rw [zOy (E:=D)]
 ·exact h.code d (xay _ b)
 rw [zKD (h.code c zaH),xag]
 grind
theorem zAn {n tick:Int}:∀{ch:List Ch} {D:List zQ},fF D n ch->∀k,ofD (yV D ch n tick) k=match ch.find? (fun c=>decide (c.key=k)) with|some c=>tY (ofD D k) n tick c.il c.is|none=>ofD D k
 | [],_,_,_=>rfl
 | c::ch,D,h,k=>by
  have b:=List.nodup_cons.1 h.nd;have a:=zAn (n:=n) (tick:=tick) (h.tail (tick:=tick)) k;have e:yV D (c::ch) n tick=yV (nI D c.key n tick c.il c.is) ch n tick:=rfl;rw [e,a,zKD (h.code c zaH)]
  grind
theorem dA (b:0<=n):∀{ch:List Ch} {D:List zQ},OkD D->fF D n ch->OkD (yV D ch n tick)
 | [],_,h,_=>h
 | c::ch,D,h,hp=>by
  refine dA (ch:=ch) b ?_ (hp.tail (tick:=tick));have a:=hp.code c zaH;show OkD (nI D c.key n tick c.il c.is);unfold nI;rw [xae a];refine zKB h c.key (zOV (pW h c.key) b (old:=8) (field:=3) (none:=6) (may:=yZ c.is) (by decide) (by decide) (by decide) ?_) (zJd _ _ _ _ _);unfold wT at a
  split at a
  ·exact a
  cases a
theorem jO {n tick:Int} (a:0<=n):∀{ch:List Ch} {D:List zQ},OkD D->fF D n ch->zT (yV D ch n tick)=zT D+ch.length
 | [],_,_,_=>rfl
 | c::ch,D,h,hp=>by
  have j:=hp.code c zaH;have b:OkD (nI D c.key n tick c.il c.is):=dA a (ch:=[c]) h ⟨by simp,fun d i=>by grind⟩;have g:=jO a (ch:=ch) (tick:=tick) b (hp.tail (tick:=tick));have e:yV D (c::ch) n tick=yV (nI D c.key n tick c.il c.is) ch n tick:=rfl;have f:=pY c.key (tY (ofD D c.key) n tick c.il c.is) h;rw [zGl] at f
  grind [nI]
theorem zDL (hs:s<n):∀(ch:List Ch) (D E:List zQ),zN0 s D E->zN0 s (yV D ch n tick) E
 | [],_,_,h=>h
 | c::ch,_,_,h=>zDL hs ch _ _ (zOU h c.key hs tick c.il c.is)
theorem zEd (a:0<=n) (h:OkD D) (b:fF D n ch) (hs:s<n) {t:Int} (c:t<=s) (k:Ky):atV (ofD (yV D ch n tick) k) t=atV (ofD D k) t:=zR6 (pW (dA a h b) k).rise (zDL hs ch D D (zLP s D) k).1 c
structure OkX (D:List zQ) (fl last:Int) (x:Tx):Prop where
 lo:0<=x.snap
 hi:x.snap<=last
 fl:x.ended=false->fl<=x.snap
 wr:OkW x.wr
 dead:x.ended=false->∀k,yH x.wr k=some none->((xT D x.snap k).getD zeroV).live=true
structure OkS (S:Sv):Prop where
 dir:OkD S.D
 low:∀k,∀v∈ofD S.D k,v.stamp<=S.last
 key:∀k,ofD S.D k≠[]->xN k.1 k.2=true
 may:∀k,∀v∈ofD S.D k,yZ v.val=true
 fl0:0<=S.floor
 fl:S.floor<=S.last
 top:S.last<=tD
 tick:0<=S.tick/\S.tick<=1099511627776
 tk:OkT S.tk
 tkl:∀s,S.tk.last=some s->s<=S.last
 txs:∀x∈S.txs,OkX S.D S.floor S.last x
 cnt:(zT S.D:Int)<=S.vers
theorem zPr {c b first:Int} (a:0<=c) (g:0<=first) (e:first<=tD):OkS (zLc c b first):=⟨zKJ,(fun k v a=>by cases a),(fun k f=>absurd rfl f),(fun k v a=>by cases a),xbo _,g,e,⟨xbo 0,show (0:Int)<=1099511627776 by decide⟩,zJy b,(fun s d=>by cases d),(fun x h=>by cases h),a⟩
theorem zLh (h:OkS S):OkS (vG S):=by
 refine ⟨h.dir,h.low,h.key,h.may,h.fl0,h.fl,h.top,h.tick,h.tk,h.tkl,fun x a=>?_,h.cnt⟩
 rcases List.mem_append.1 a with a|a
 ·exact h.txs x a
 rw [List.mem_singleton.1 a];have e:=h.fl0;have c:=h.fl;exact ⟨by show 0<=S.last;omega,xbo _,fun _=>c,⟨xan,(fun y b=>by cases b),(fun y b=>by cases b)⟩,fun _ k d=>by cases d⟩
theorem zCA (h:OkS S) (i:Nat) {x:Tx} (b:OkX S.D S.floor S.last x):OkS (yA S i x):=by
 refine ⟨h.dir,h.low,h.key,h.may,h.fl0,h.fl,h.top,h.tick,h.tk,h.tkl,fun y a=>?_,h.cnt⟩
 rcases xb7 a with a|rfl
 ·exact h.txs y a
 exact b
theorem zF1 (h:OkX D fl last x):OkX D fl last { x with ended:=true }:=⟨h.lo,h.hi,fun e=>(by cases e),h.wr,fun e=>(by cases e)⟩
theorem zFj (h:OkX D fl last x) (m:Mk):OkX D fl last { x with marks:=m }:=⟨h.lo,h.hi,h.fl,h.wr,h.dead⟩
theorem zCe:some s∈xR S↔∃x∈S.txs,x.ended=false/\x.snap=s:=by grind [xR]
theorem zLM (h:OkS S):OkQ (xR S) S.floor:=by
 have e:=h.fl;have c:=h.top;unfold tD at c;refine ⟨⟨h.fl0,by omega⟩,fun s a=>?_⟩;obtain ⟨x,d,b,rfl⟩:=zCe.1 a;have:=h.txs x d;exact ⟨this.fl b,by have:=this.hi;omega⟩
theorem zAs (h:OkS S):S.floor<=zP S:=zMg (zLM h) h.fl
theorem zEA (S:Sv):zP S<=S.last:=zCw _ _
theorem gH (a:x∈S.txs) (b:x.ended=false):zP S<=x.snap:=jG (zCe.2 ⟨x,a,b,rfl⟩) _
theorem zEa {f:Int} {v:Vr} (h:v∈wV l f):v∈l:=xaK h
theorem zJn (h:OkS S):OkS (uH S):=by
 have i:=zAs h;have g:=zEA S;have m:=h.fl0;refine ⟨zEX h.dir _,fun k v d=>?_,fun k c=>?_,fun k v d=>?_,by show 0<=zP S;omega,g,h.top,h.tick,h.tk,h.tkl,fun x f=>?_,?_⟩
 ·have hv':v∈ofD (wB S.D (zP S)) k:=d;rw [sY] at hv';exact h.low k v (zEa hv')
 ·have hk':ofD (wB S.D (zP S)) k≠[]:=c;rw [sY] at hk';exact h.key k fun e=>hk' (by rw [e];rfl)
 ·have hv':v∈ofD (wB S.D (zP S)) k:=d;rw [sY] at hv';exact h.may k v (zEa hv')
 ·have a:=h.txs x f;refine ⟨a.lo,a.hi,fun b=>gH f b,a.wr,fun b k c=>?_⟩;have:=a.dead b k c;show ((atV (ofD (wB S.D (zP S)) k) x.snap).getD zeroV).live=true;rw [sY,zFc (pW h.dir k).rise (gH (S:=S) f b)];exact this
 have j:=jQ S.D (zP S);have:=h.cnt;show (zT (wB S.D (zP S)):Int)<=S.vers;omega
theorem zO7 (h:OkS S) (n:Int):OkS { S with tick:=wE S.tick n }:=by
 refine ⟨h.dir,h.low,h.key,h.may,h.fl0,h.fl,h.top,?_,h.tk,h.tkl,h.txs,h.cnt⟩;have:=h.tick
 grind [wE]
end
end Go.Proofs.YtkhljboeffhciaaGreat
