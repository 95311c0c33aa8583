/- A part of the proof. -/
import Derived.Test.YtkhljboeffhciaaGreatPa
import Derived.Shelf.Abstract
import Derived.Shelf.RegionOpen
import Derived.OwnWalkIn
import Derived.TacticsInMore
import Derived.LoopNIn
import Derived.LoopIn
import Derived.Deep.DeepAppendWide
set_option maxHeartbeats 40000000
set_option maxRecDepth 100000
set_option linter.unusedSimpArgs false
open Go.RowKit
namespace Go.Proofs.YtkhljboeffhciaaGreat
section
open Go.RowKit
section
variable {w W:World} {d o:List Vx} {u:Value} {g c i:Nat}
theorem zQ3 {α:Type} {K:zC α} {b e:Nat} {d:List α} (h:K.At w b e d):∀j u,(K.cells d)[j]? = some u->w.cell? ⟨b,e+j,none⟩=some u:=by
 intro j u hj;obtain ⟨a,r⟩:∃a,a=(some (aa b e):Option Addr):=⟨_,rfl⟩;have f:0<K.k:=K.pos;have l:=(gL hj).1;rw [K.cells_len] at l;have m:j / K.k<d.length:=by rw [Nat.div_lt_iff_lt_mul f];exact l
 have p:=Nat.mod_lt j f;have q:j / K.k * K.k+j % K.k=j:=by rw [Nat.mul_comm];exact Nat.div_add_mod j K.k
 have n:=K.cells_get d (j / K.k) m (j % K.k) p;rw [q,hj] at n;have:=h (j / K.k) m (j % K.k) u n.symm
 grind
theorem zCl (v:Value) (p:List Vx) (w:World) (x:KV.Is w v p) (hs:p.length * 56<=140737488355328) :
  Calls Tryz.prog 173 #[v] w fun e r=>∃u,e=.returned u/\KV.Own w.heap.size r u p/\Below w.heap.size w r:=by
 obtain ⟨E,hi,F,A,B⟩:=info_parts Tryz.infoVer;obtain ⟨q,cap,rfl,hd⟩:=x;have K:∀(w:World) (a:Option Addr) (n c f k:Nat),(binOp .eql 44 (sc a n c) (sc none f k)).run Tryz.prog w=.ok (.bool a.isNone) w:=fun w a n c f k=>Lib.run_eql_slice_nil w _ _ a n c f k Tryz.underlying44
 have s:=hid hd
 cases q with
 | none =>
  have y:p=[]:=by
   rcases s.o with h|⟨b,t,h,_⟩
   ·exact h
   cases h
  subst y;go_enter Tryz.func173,Tryz.ntmps173;go_wp2_with fail;go_ret;exact ⟨_,rfl,KV.own_nil _ _,Below.refl _ _⟩
 | some a =>
 have H:∀j u,(KV.cells p)[j]? = some u->(w.alloc (.cells #[] 42)).cell? (a.add j)=some u:=by
  rcases s.o with h|⟨b,t,h,M⟩
  ·grind [zC.cells]
  grind [addr_add,zQ3,World.cell?_alloc_lt,zH]
 have G:=hid H;go_enter Tryz.func173,Tryz.ntmps173;go_wp2_with (at_builtin;refine wpList_append_own _ rfl _ _ 44 rfl w.z 42 E (.agg #[ii 0,iu 0,ii 0,.bool false,sc none 0 0]) 5 56 Tryz.underlying44 hi F A B rfl (by decide) _ _ _ rfl (World.ownsRow_made w #[] 0 (Nat.le_refl _) (Nat.zero_le _) (by simp)) a p.length cap (KV.cells p) rfl ?c0 ?c1 ?c2 ?c3 ?c4 ?c5 ?_)
 case c0=>exact KV.cells_len p
 case c1=>exact G.o
 case c2=>exact KV.cells_ones p
 case c3=>unfold maxLen;omega
 case c4=>omega
 case c5=>simp
 intro m l L I J;have C:Bw w l:=((Below.refl _ w).alloc (Nat.le_refl _) _).grown I (by simp) (by grind [Value.ownBlock]);have D:Hid (KV.Own w.z l m p):=hid (by show l.ownsRow w.z 42 5 m p.length (KV.cells p);omega);go_wp2_with fail;go_ret;exact ⟨_,rfl,D.o,C⟩
theorem zBT (x:Vx) (l:List Vx):KV.cells (x::l)=.int .i64 x.num::.int .u64 x.stamp::.int .i64 x.tick::.bool x.live::x.sl::KV.cells l:=rfl
theorem zCW:∀(l:List Vx) (i:Nat) (h:i<l.length) (p:Option Addr) (a:Nat) (o:List Fx),
  KV.cells (l.set i ⟨(l[i]).num,(l[i]).stamp,(l[i]).tick,(l[i]).live,p,a,o⟩)=(KV.cells l).set (i * 5+4) (.slice p o.length a)
 | [],i,h,_,_,_=>by simp at h
 | x::l,0,_,p,a,o=>by simp only [List.set_cons_zero,List.getElem_cons_zero,zBT];rfl
 | x::l,i+1,h,p,a,o=>by
  have h':i<l.length:=by simpa using h
  rw [List.set_cons_succ];simp only [List.getElem_cons_succ,zBT];rw [zCW l i h' p a o,show (i+1) * 5+4=i * 5+4+1+1+1+1+1 by omega];rfl
def zEn (o:List Vx):Prop:=o.Pairwise fun x y=>∀k,zHX x k->¬ zHX y k
structure zB3 (w:World) (u:Value) (d:List Vx) (i:Nat) (o:List Vx) (W:World):Prop where
 len:o.length=i
 row:W.ownsRow w.heap.size 42 5 u d.length (KV.cells (o++d.drop i))
 val:∀x∈o,zW w.heap.size W x.sl x.o
 apart:zEn o
 ver:o.map Vx.ver=(d.take i).map Vx.ver
 bel:Below w.heap.size w W
theorem zB3.start (h:KV.Own w.heap.size W u d) (a:Below w.heap.size w W):zB3 w u d 0 [] W :=
 ⟨rfl,by
  have h':W.ownsRow w.z 42 5 u d.length (KV.cells d):=h
  grind,fun x b=>by simp at b,List.Pairwise.nil,by simp,a⟩
theorem zB3.cells (h:zB3 w (.slice (some ⟨g,0,none⟩) d.length c) d i o W) (hi:i<d.length):∀a,Below W.heap.size W a ->
  a.cell? ⟨g,i * 5+4,none⟩=some (d[i]).sl/\a.frozen? ⟨g,i * 5+4,none⟩=false:=fun a f=>by
 have e:=own_on h.row f;have j:(o++d.drop i).length=d.length:=by rw [List.length_append,List.length_drop,h.len];omega
 have b:=KV.cells_get (o++d.drop i) i (by omega) 4 (by decide);rw [zFL h.len hi] at b;exact ⟨by rw [e.cellAt _ (by omega)];exact b,e.frozenAt _⟩
theorem zB3.next {f:World} (h:zB3 w (.slice (some ⟨g,0,none⟩) d.length c) d i o W) (hi:i<d.length) {m:Option Addr} {n:Nat} {j:List Fx} (r:Below W.heap.size W f)
  (ht:zW W.heap.size f (.slice m j.length n) j) (hm:j.map Fx.fld=(d[i]).o.map Fx.fld) :
  zB3 w (.slice (some ⟨g,0,none⟩) d.length c) d (i+1) (o++[⟨(d[i]).num,(d[i]).stamp,(d[i]).tick,(d[i]).live,m,n,j⟩]) (f.setCell ⟨g,i * 5+4,none⟩ (.slice m j.length n)):=by
 have A:=own_on h.row r;have C:=(World.ownsRow.lt h.row g rfl).1;have y:w.z<=W.z:=h.bel.size;have B:(o++d.drop i).length=d.length:=by rw [List.length_append,List.length_drop,h.len];omega
 have I:=zJ6 h.len hi (⟨(d[i]).num,(d[i]).stamp,(d[i]).tick,(d[i]).live,m,n,j⟩:Vx);have t:Fr (fun k=>k=g) f (f.setCell (aa g (i * 5+4)) (sc m j.length n)):=Fr.of_grown (xN f g _ _) fun k p=>by grind
 have v:∀{N:Nat} {u:Value} {q:List Fx},zW N f u q->∀k,pS u q k->¬ k=g:=fun hj k p e=>by
  subst e
  have hr5':KV.Own w.z f (sc (some (aa k 0)) d.length c) (o++d.drop i):=by
   show f.ownsRow _ _ _ _ (o++d.drop i).length _
   rw [B];exact A
  exact zJ0 hr5' hj k rfl p
 refine ⟨by grind,?_,fun x l=>?_,?_,?_,?_⟩
 ·have H:=(A.stored (i * 5+4) (sc m j.length n)).1
  grind [zCW,zFL]
 ·rcases List.mem_append.1 l with l|l
  ·exact yD ((h.val x l).on r) t (v ((h.val x l).on r))
  rw [List.mem_singleton] at l;subst l;exact yD (zJ ht y) t (v ht)
 ·unfold zEn;rw [List.pairwise_append];refine ⟨h.apart,List.pairwise_singleton _ _,fun a E b s k p D=>?_⟩;rw [List.mem_singleton] at s;subst s;have F:=(yN (h.val a E) k p).2;have G:=(yN ht k D).1;omega
 ·rw [List.map_append,h.ver,List.take_succ_eq_append_getElem hi,List.map_append]
  grind [Vx.ver]
 exact (zA h.bel y r).setCell C _
def vT (w:World) (l:List Vr) (e:Ending) (w':World):Prop :=
 ∃u o,e=.returned u/\KV.Own w.heap.size w' u o/\(∀x∈o,zW w.heap.size w' x.sl x.o)/\zEn o/\o.map Vx.ver=l/\Below w.heap.size w w'
theorem zB3.done (h:zB3 w u d i o W) (hi:¬ i<d.length):vT w (d.map Vx.ver) (.returned u) W:=by
 have a:=h.ver;rw [List.take_of_length_le (by omega)] at a;have e:o.length=d.length:=by simpa using congrArg List.length a
 have b:=h.row;rw [List.drop_eq_nil_of_le (by omega),List.append_nil,<-e] at b;exact ⟨u,o,rfl,b,h.val,h.apart,a,h.bel⟩
theorem zBY (v:Value) (d:List Vx) (w:World) (B:KV.Is w v d) (I:∀x∈d,x.at w/\xB x.o/\xJ x.o) (Q:d.length<=2400000000000) :
  Calls Tryz.prog 245 #[v] w fun e K=>vT w (d.map Vx.ver) e K:=by
 have C:=hid (zCl v d w B (by omega));have y:=hid I;go_enter Tryz.func245,Tryz.ntmps245;go_wp2_with fail;refine C.o.mono ?_;rintro e X ⟨u,rfl,n,G⟩;have S:=hid (zB3.start n G)
 obtain ⟨p,b,rfl,A⟩:∃p b,u=sc p d.length b/\(0<d.length->∃g,p=some (aa g 0)):=by
  rcases n.2 with ⟨m,s⟩|⟨g,b,_,m,_⟩
  ·grind
  grind
 have H:=hid A;go_wp2_with fail
 go_loopg [9] d.length (fun gg F wr=>∃(i:Nat) (o:List Vx),F=ii i/\i<=d.length/\d.length-i<=gg/\Hid (zB3 w (sc p d.length b) d i o wr))
 case atStart=>grind
 obtain ⟨i,o,rfl,hi,V,f⟩:=hrel
 by_cases hlt:i<d.length
 ·have J:(i:Int)<(d.length:Int):=by omega
  have L:(0:Int)<=i:=by omega
  obtain ⟨g,rfl⟩:=H.o (by omega);obtain ⟨c0,f0⟩:=f.o.cells hlt wr (Below.refl _ _);have t:=hid (f.o.cells hlt);have l:=y.o _ (List.getElem_mem hlt);have r:=hid (dU (d[i]).sl (d[i]).o wr (l.1.kept f.o.bel) l.2.1 l.2.2);have q:Hid (∀j h k a,Bw wr j->zW wr.z j (sc h a.length k) a->a.map Fx.fld=(d[i]).o.map Fx.fld->zB3 w (sc (some (aa g 0)) d.length b) d (i+1) (o++[⟨(d[i]).num,(d[i]).stamp,(d[i]).tick,(d[i]).live,h,k,a⟩]) (j.setCell (aa g (i * 5+4)) (sc h a.length k))):=fun j h k a m s D=>f.o.next hlt m s D
  generalize d[i]=x at *
  obtain ⟨U,M,O,T,N,P,Y⟩:=x;simp only [Vx.sl] at c0 t r q;go_wp2_with fail;refine r.o.mono ?_;rintro e w5 ⟨sv,a,rfl,hot5,hm5,hb5⟩;obtain ⟨p6,c6,rfl⟩:=yV hot5;obtain ⟨q0,q1⟩:=t.o w5 hb5;have R:=hid (q.o w5 p6 c6 a hb5 hot5 hm5);go_wp2_with fail;go_roundg (d.length-(i+1))
  case measure=>omega
  grind
 have J:¬ (i:Int)<(d.length:Int):=by omega
 have E:=hid (f.o.done hlt);go_wp2_with fail;go_ret;exact E.o
def vZ (w:World) (o:Option Vr) (e:Ending) (w':World):Prop :=
 ∃x:Vx,e=.returned (.tuple #[.agg (zF x).toArray,.bool o.isSome])/\x.ver=o.getD zeroV/\zW w.heap.size w' x.sl x.o/\Below w.heap.size w w'
def jP (l:List Vr) (place:Int):Option Vr:=if 0<=place then l[place.toNat]? else none
theorem cM:zY.ver=zeroV:=rfl
theorem cN (v:Value) (d:List Vx) (place:Int) (w:World) (hv:KV.Is w v d) (ha:∀x∈d,x.at w/\xB x.o/\xJ x.o) (_hl:d.length<=2400000000000) :
  Calls Tryz.prog 171 #[v,.int .i64 place] w fun e w'=>vZ w (jP (d.map Vx.ver) place) e w':=by
 obtain ⟨p,cap,rfl,hd⟩:=hv;have HD:=hid hd;have HA:=hid ha;have HBX:Hid (Bw w (w.alloc (.cells #[ii 0,iu 0,ii 0,.bool false,sc none 0 0] 42))):=(Below.refl _ _).alloc (Nat.le_refl _) _
 by_cases h1:place<0
 ·have HG:Hid (jP (d.map Vx.ver) place=none):=by show _=_;unfold jP;rw [if_neg (by omega)]
  go_enter Tryz.func171,Tryz.ntmps171
  go_wp2_with fail
  rw [HG.o]
  exact bodyPost_ret (v:=.tuple #[.agg #[ii 0,iu 0,ii 0,.bool false,sc none 0 0],.bool false]) (by simp [results,Tryz.results171,go_sem]) rfl
   ⟨zY,rfl,cM,vH _ _,by
    first
    | exact (Below.refl _ _).alloc (Nat.le_refl _) _
    | exact (((((HBX.o.setCell (Nat.le_refl _) _).setCell (Nat.le_refl _) _).setCell (Nat.le_refl _) _).setCell (Nat.le_refl _) _).setCell (Nat.le_refl _) _)⟩
 by_cases h2:(d.length:Int)<=place
 ·have HG:Hid (jP (d.map Vx.ver) place=none):=by
   show _=_
   unfold jP;rw [if_pos (by omega),List.getElem?_eq_none (by grind)]
  go_enter Tryz.func171,Tryz.ntmps171
  go_wp2_with fail
  rw [HG.o]
  exact bodyPost_ret (v:=.tuple #[.agg #[ii 0,iu 0,ii 0,.bool false,sc none 0 0],.bool false]) (by simp [results,Tryz.results171,go_sem]) rfl
   ⟨zY,rfl,cM,vH _ _,by
    first
    | exact (Below.refl _ _).alloc (Nat.le_refl _) _
    | exact (((((HBX.o.setCell (Nat.le_refl _) _).setCell (Nat.le_refl _) _).setCell (Nat.le_refl _) _).setCell (Nat.le_refl _) _).setCell (Nat.le_refl _) _)⟩
 obtain ⟨k,rfl⟩:∃k:Nat,place=(k:Int):=⟨place.toNat,by omega⟩;have hk:k<d.length:=by omega
 have hk0:(0:Int)<=(k:Int):=by omega
 have hkl:(k:Int)<(d.length:Int):=by omega
 obtain ⟨b1,o1,rfl,k1⟩:∃b off,p=some (aa b off)/\KV.At w b off d:=by
  rcases HD.o with h|h
  ·grind
  exact h
 obtain ⟨y0,y1,y2,y3,y4⟩:=zBQ (zC.at_kept k1 HBX.o) k hk
 have HG:Hid (jP (d.map Vx.ver) (k:Int)=some (d[k]).ver):=by
  show _=_
  unfold jP;rw [if_pos hk0,Int.toNat_natCast,List.getElem?_map,List.getElem?_eq_getElem hk];rfl
 have hax:=HA.o _ (List.getElem_mem hk)
 generalize d[k]=x at *
 have HB2:Hid (Bw w ((w.alloc (.cells #[ii 0,iu 0,ii 0,.bool false,sc none 0 0] 42)).alloc (.cells (zF x).toArray 42))):=HBX.o.alloc (by simp) _;have HCP:=hid (dU x.sl x.o _ (hax.1.kept HB2.o) hax.2.1 hax.2.2);obtain ⟨xn,xs,xt,xl,xp,xc,xo⟩:=x;simp only [Vx.sl,zF] at y0 y1 y2 y3 y4 HCP HB2;rw [HG.o];go_enter Tryz.func171,Tryz.ntmps171;go_wp2_with fail;refine HCP.o.mono ?_;rintro e w1 ⟨u,o,rfl,hJ,hm,hq⟩;obtain ⟨p5,c5,rfl⟩:=yV hJ;obtain ⟨N,hN⟩:=eE w.heap.size
 have z1:w1.heap[N]? = some (oc #[ii 0,iu 0,ii 0,.bool false,sc none 0 0] 42):=by
  rw [hq.block N (by simp;omega),heap_alloc_old _ _ (by rw [<-hN];simp),<-hN];exact heap_alloc_new w _
 have z2:w1.heap[N+1]? = some (oc #[ii xn,iu xs,ii xt,.bool xl,sc xp xo.length xc] 42):=by
  rw [hq.block (N+1) (by simp;omega)];have:=heap_alloc_new (w.alloc (.cells #[ii 0,iu 0,ii 0,.bool false,sc none 0 0] 42)) (.cells #[ii xn,iu xs,ii xt,.bool xl,sc xp xo.length xc] 42);rw [<-hN]
  simpa using this
 have q10:w1.cell? (aa N 0)=some (ii 0):=cz z1;have q11:w1.cell? (aa N 1)=some (iu 0):=cz z1;have q12:w1.cell? (aa N 2)=some (ii 0):=cz z1;have q13:w1.cell? (aa N 3)=some (.bool false):=cz z1;have q14:w1.cell? (aa N 4)=some (sc none 0 0):=cz z1;have q20:w1.cell? (aa (N+1) 0)=some (ii xn):=cz z2;have q21:w1.cell? (aa (N+1) 1)=some (iu xs):=cz z2;have q22:w1.cell? (aa (N+1) 2)=some (ii xt):=cz z2;have q23:w1.cell? (aa (N+1) 3)=some (.bool xl):=cz z2;have q24:w1.cell? (aa (N+1) 4)=some (sc xp xo.length xc):=cz z2;have fz:∀(B j:Nat) (cs:Array Value),w1.heap[B]? = some (oc cs 42)->w1.frozen? (aa B j)=false:=fun B j cs h=>by grind [World.frozen?]
 have r10:=fz N 0 _ z1;have r11:=fz N 1 _ z1;have r12:=fz N 2 _ z1;have r13:=fz N 3 _ z1;have r14:=fz N 4 _ z1;have r24:=fz (N+1) 4 _ z2;have HJ:=hid (zJ hJ (M:=N+2) (by simp;omega));have HM:=hid hm;have HZ1:=hid z1;have HZ2:=hid z2;have hNs:N<=w1.heap.size:=by have:=hq.size;simp at this;omega
 have HBQ:Hid (Below N w w1):=by rw [<-hN] at *;exact zA HB2.o HB2.o.size hq
 simp only [hN];go_wp2_with fail
 exact bodyPost_ret (v:=.tuple #[.agg #[ii xn,iu xs,ii xt,.bool xl,sc p5 o.length c5],.bool true]) (by simp [results,Tryz.results171,go_sem,q10,q11,q12,q13,q14]) rfl
  ⟨⟨xn,xs,xt,xl,p5,c5,o⟩,rfl,by show Vr.mk _ _ _ _ _=Vr.mk _ _ _ _ _;rw [HM.o],by
   rw [hN];refine zJ (N:=N+2) ?_ (by omega);exact zO (zO (zO (zO (zO (zO HJ.o (by omega) _) (by omega) _) (by omega) _) (by omega) _) (by omega) _) (by omega) _,by
   rw [hN];exact (((((HBQ.o.setCell (Nat.le_succ _) _).setCell (Nat.le_refl _) _).setCell (Nat.le_refl _) _).setCell (Nat.le_refl _) _).setCell (Nat.le_refl _) _).setCell (Nat.le_refl _) _⟩
end
end
section
open Go.RowKit
theorem zAA (x:Vx) (t:Int) (w:World) :
  Calls Tryz.prog 223 #[.agg (zF x).toArray,.int .u64 t] w fun e c=>e=.returned (.int .i64 (if x.stamp<=t then -1 else 1))/\Below w.heap.size w c:=by
 have a:Hid (Bw w (w.alloc (.cells (zF x).toArray 42))):=(Below.refl _ _).alloc (Nat.le_refl _) _;obtain ⟨f,b,j,d,g,k,i⟩:=x;simp only [zF,Vx.sl] at a ⊢
 by_cases h:b<=t
 ·rw [if_pos h];go_enter Tryz.func223,Tryz.ntmps223;go_wp2_with fail;go_ret;exact ⟨rfl,a.o⟩
 rw [if_neg h];go_enter Tryz.func223,Tryz.ntmps223;go_wp2_with fail;go_ret;exact ⟨rfl,a.o⟩
theorem zB4:∀args w,(callFunc 223 args).run Tryz.prog w=.ok (.enter 223 args) w:=enters_of Tryz.func223 (by kernel_rfl) rfl
theorem zQY {d:List Vx} (c:pF (d.map Vx.ver)) (t:Int) (k:Nat) (b:k<d.length):((d[k]).stamp<=t↔k<vF (d.map Vx.ver) t):=by
 have hk':k<(d.map Vx.ver).length:=by rw [List.length_map];exact b
 have e:((d.map Vx.ver)[k]).stamp=(d[k]).stamp:=by rw [List.getElem_map];rfl
 constructor
 ·intro h
  rcases Nat.lt_or_ge k (vF (d.map Vx.ver) t) with a|a
  ·exact a
  have:=sM _ c t k hk' a;omega
 intro h;have:=uZ _ t k hk' h;omega
theorem zPC (v:Value) (d:List Vx) (t:Int) (w:World) (hv:KV.Is w v d) (hr:pF (d.map Vx.ver)) (hl:d.length<=2400000000000) :
  Calls Tryz.prog 222 #[v,.int .u64 t,.func (.func 223) #[] #[]] w fun e w'=>(∃b,e=.returned (.tuple #[.int .i64 (vF (d.map Vx.ver) t:Nat),.bool b])/\b=false)/\Below w.heap.size w w':=by
 have eg:=zB4;obtain ⟨p,cap,rfl,hd⟩:=hv;have HD:=hid hd;have HR:=hid (zQY hr t);have hcl:=wK (d.map Vx.ver) t;rw [List.length_map] at hcl;obtain ⟨c,hc⟩:=eE (vF (d.map Vx.ver) t);rw [hc] at HR hcl ⊢;go_enter Tryz.func222,Tryz.ntmps222;go_wp2_with fail
 go_loopg [9,10] d.length (fun kx s9 s10 wr=>∃lo hi:Nat,s9=ii lo/\s10=ii hi/\lo<=c/\c<=hi/\hi<=d.length/\hi-lo<=kx/\Hid (Bw w wr))
 case atStart=>exact ⟨0,d.length,rfl,rfl,Nat.zero_le _,hcl,Nat.le_refl _,by omega,Below.refl _ _⟩
 obtain ⟨lo,hi,rfl,rfl,hlc,hch,hhd,hg,HB⟩:=hrel
 by_cases hlt:lo<hi
 ·have hk:(lo+hi) / 2<d.length:=by omega
  obtain ⟨b1,o1,rfl,k1⟩:∃b off,p=some (aa b off)/\KV.At w b off d:=by
   rcases HD.o with h|h
   ·rw [h] at hk;simp at hk
   exact h
  obtain ⟨y0,y1,y2,y3,y4⟩:=zBQ (zC.at_kept k1 HB.o) ((lo+hi) / 2) hk;have hiff:=HR.o ((lo+hi) / 2) hk;have hsz:=HB.o.size
  generalize d[(lo+hi) / 2]=x at *
  have hcall:=zAA x t wr;obtain ⟨xn,xs,xt,xl,xp,xc,xo⟩:=x;simp only [Vx.sl,zF] at y0 y1 y2 y3 y4 hiff hcall;have HCALL:=hid hcall
  by_cases hs:xs<=t
  ·rw [if_pos hs] at HCALL;have hkc:=hiff.1 hs;go_wp2_with (go_at_fn 223;refine HCALL.o.mono ?_;rintro e w1 ⟨rfl,hq⟩);have HB1:=hid (zA HB.o hsz hq);go_roundg (hi-((lo+hi) / 2+1))
   case measure=>omega
   exact ⟨(lo+hi) / 2+1,hi,by rw [show ((lo:Int)+(hi:Int)) / 2+1=(((lo+hi) / 2+1:Nat):Int) by omega],rfl,by omega,hch,hhd,by omega,HB1.o⟩
  rw [if_neg hs] at HCALL;have hkc:¬ (lo+hi) / 2<c:=fun h=>hs (hiff.2 h)
  go_wp2_with (go_at_fn 223;refine HCALL.o.mono ?_;rintro e w1 ⟨rfl,hq⟩)
  have HB1:=hid (zA HB.o hsz hq);go_roundg ((lo+hi) / 2-lo)
  case measure=>omega
  exact ⟨lo,(lo+hi) / 2,rfl,by rw [show ((lo:Int)+(hi:Int)) / 2=(((lo+hi) / 2:Nat):Int) by omega],hlc,by omega,by omega,by omega,HB1.o⟩
 obtain rfl:lo=c:=by omega
 obtain rfl:hi=lo:=by omega
 by_cases hn:hi<d.length
 ·obtain ⟨b1,o1,rfl,k1⟩:∃b off,p=some (aa b off)/\KV.At w b off d:=by
   rcases HD.o with h|h
   ·rw [h] at hn;simp at hn
   exact h
  obtain ⟨y0,y1,y2,y3,y4⟩:=zBQ (zC.at_kept k1 HB.o) hi hn;have hiff:=HR.o hi hn;have hsz:=HB.o.size
  generalize d[hi]=x at *
  have hcall:=zAA x t wr;obtain ⟨xn,xs,xt,xl,xp,xc,xo⟩:=x;simp only [Vx.sl,zF] at y0 y1 y2 y3 y4 hiff hcall;have hs:¬ xs<=t:=fun h=>by have:=hiff.1 h;omega
  rw [if_neg hs] at hcall;have HCALL:=hid hcall;go_wp2_with (go_at_fn 223;refine HCALL.o.mono ?_;rintro e w1 ⟨rfl,hq⟩);have HB1:=hid (zA HB.o hsz hq)
  go_ret2
  exact ⟨⟨_,rfl,rfl⟩,HB1.o⟩
 go_wp2_with fail
 go_ret2
 exact ⟨⟨_,rfl,rfl⟩,HB.o⟩
theorem nF (v:Value) (d:List Vx) (t:Int) (w:World) (a:KV.Is w v d) (g:pF (d.map Vx.ver)) (c:d.length<=2400000000000) :
  Calls Tryz.prog 172 #[v,.int .u64 t] w fun e i=>e=.returned (.int .i64 (vF (d.map Vx.ver) t:Nat))/\Below w.heap.size w i:=by
 have h:=hid (zPC v d t w a g c);obtain ⟨p,j,rfl,_⟩:=a;go_enter Tryz.func172,Tryz.ntmps172;go_wp2_with fail;refine h.o.mono ?_;rintro e w1 ⟨⟨b,rfl,rfl⟩,hq⟩;have f:=hid hq;go_wp2_with fail;go_ret;exact ⟨rfl,f.o⟩
end
section
open Go.RowKit
section
variable {n0 g N:Nat} {w:World} {d:List Vx} {vs:Value} {l:List Vr} {n:Int}
theorem uE (a:vB n0 w g d vs) :
  Calls Tryz.prog 159 #[.pointer (some ⟨g,0,none⟩)] w fun e b=>e=.returned vs/\b=w:=by
 obtain ⟨p,f,rfl⟩:=zC.own_shape a.row;have c:=a.cell;go_enter Tryz.func159,Tryz.ntmps159;go_wp2_with fail;go_ret;exact ⟨rfl,rfl⟩
def pR (w:World) (N:Nat):Prop:=w.heap[N]? = some (.cells #[.int .i64 0,.int .u64 0,.int .i64 0,.bool false,.slice none 0 0] 42 (0,0))
theorem pR.cells (h:pR w N):w.cell? ⟨N,0,none⟩=some (.int .i64 0)/\w.cell? ⟨N,1,none⟩=some (.int .u64 0)/\w.cell? ⟨N,2,none⟩=some (.int .i64 0)/\w.cell? ⟨N,3,none⟩=some (.bool false)/\w.cell? ⟨N,4,none⟩=some (.slice none 0 0):=by
 unfold pR at h;refine ⟨?_,?_,?_,?_,?_⟩<;>(rw [Lib.cell_of_heap h];rfl)
theorem pR.free (h:pR w N) (j:Nat):w.frozen? ⟨N,j,none⟩=false:=by grind [pR,World.frozen?]
theorem tY (w:World):pR (w.alloc (.cells #[.int .i64 0,.int .u64 0,.int .i64 0,.bool false,.slice none 0 0] 42)) w.heap.size:=heap_alloc_new w _
theorem pR.on {W:World} (h:pR w N) (c:Below w.heap.size w W):pR W N:=by
 have b:N<w.z:=by
  unfold pR at h
  rcases Nat.lt_or_ge N w.z with a|a
  ·exact a
  grind
 exact (c.block N b).trans h
theorem zRF (t:Int):jP l ((vF l t:Nat)-1:Int)=atV l t:=by
 unfold jP atV
 by_cases h:vF l t=0
 ·rw [if_neg (by omega),if_pos h]
 rw [if_pos (by omega),if_neg h]
 congr 1
 omega
theorem zMs:jP l ((l.length:Nat)-1:Int)=l.getLast?:=by
 unfold jP;rw [List.getLast?_eq_getElem?]
 by_cases h:l.length=0
 ·grind
 rw [if_pos (by omega)]
 congr 1
 omega
theorem zQW {n0:Nat} {w:World} {g:Nat} {d:List Vx} {vs:Value} (hC:vB n0 w g d vs) (t:Int) :
  Calls Tryz.prog 118 #[.pointer (some ⟨g,0,none⟩),.int .u64 t] w fun e w'=>vZ w (atV (d.map Vx.ver) t) e w':=by
 have HBX:Hid (Below w.heap.size w (w.alloc (.cells #[ii 0,iu 0,ii 0,.bool false,sc none 0 0] 42))):=(Below.refl _ _).alloc (Nat.le_refl _) _;have HZ:=hid (tY w);obtain ⟨N,hN⟩:∃N,w.heap.size=N:=⟨_,rfl⟩;have hs1:(w.alloc (.cells #[ii 0,iu 0,ii 0,.bool false,sc none 0 0] 42)).heap.size=N+1:=by simp [hN]
 have hC1:=hC.on HBX.out;have HV:=hid (uE hC1);obtain ⟨p,cap,rfl⟩:=zC.own_shape hC.row;have hT:=nF _ d t _ (zC.own_is hC1.row) hC.ok.rise hC.few;have hTo:=fun W hW place=>cN _ d place W (zC.is_kept (zC.own_is hC1.row) hW) (hC1.on hW).fits hC.few
 have HCL:Hid (vF (d.map Vx.ver) t<=2400000000000):=by have h1:=wK (d.map Vx.ver) t;have h2:=hC.few;rw [List.length_map] at h1;show _<=_;omega
 have HGA:=hid (zRF (l:=d.map Vx.ver) t);obtain ⟨c,hc⟩:∃c,vF (d.map Vx.ver) t=c:=⟨_,rfl⟩;rw [hc] at hT HCL HGA;have hcl:=HCL.out;have HT:=hid hT;have HTO:=hid hTo;rw [<-HGA.out];have hN':w.heap.size=N:=hN;rw [hN] at HBX HZ;obtain ⟨W1,hW1⟩:∃W1,w.alloc (.cells #[ii 0,iu 0,ii 0,.bool false,sc none 0 0] 42)=W1:=⟨_,rfl⟩;rw [hW1] at HBX HZ HV HT HTO hs1;go_enter Tryz.func118,Tryz.ntmps118;go_wp2_with fail;(try rw [hW1]);refine HV.out.mono ?_;rintro e w1 ⟨rfl,rfl⟩;go_wp2_with fail;refine HT.out.mono ?_;rintro e w2 ⟨rfl,hq2⟩;have HQ2:=hid hq2;have HTC:=hid (HTO.out w2 hq2 ((c:Int)-1));have hs2:=hq2.size;go_wp2_with fail;refine HTC.out.mono ?_;rintro e w3 ⟨x,rfl,hx,hJ,hq3⟩;have hZ3:=(HZ.out.on HQ2.out).on hq3;obtain ⟨q0,q1,q2,q3,q4⟩:=hZ3.cells;have r0:=hZ3.free 0;have r1:=hZ3.free 1;have r2:=hZ3.free 2;have r3:=hZ3.free 3;have r4:=hZ3.free 4;have HX:=hid hx;have HJ:=hid (zJ hJ (M:=N+1) (by omega));have HB3:Hid (Below N w w3):=zA (zA HBX.out (by omega) HQ2.out) (by omega) hq3;obtain ⟨xn,xs,xt,xl,xp,xc,xo⟩:=x;simp only [zF,Vx.sl] at HJ ⊢
 try simp only [hN]
 go_wp2_with fail
 exact bodyPost_ret (v:=.tuple #[.agg #[ii xn,iu xs,ii xt,.bool xl,sc xp xo.length xc],.bool (jP (d.map Vx.ver) ((c:Int)-1)).isSome]) (by simp [results,Tryz.results118,go_sem,q0,q1,q2,q3,q4]) rfl
  ⟨⟨xn,xs,xt,xl,xp,xc,xo⟩,rfl,HX.out,by
   rw [hN];refine zJ (N:=N+1) ?_ (by omega);exact zO (zO (zO (zO (zO HJ.out (by omega) _) (by omega) _) (by omega) _) (by omega) _) (by omega) _,by
   rw [hN];exact ((((HB3.out.setCell (Nat.le_refl _) _).setCell (Nat.le_refl _) _).setCell (Nat.le_refl _) _).setCell (Nat.le_refl _) _).setCell (Nat.le_refl _) _⟩
theorem zGT (h:OkV l) {n:Int} (c:(e:0<l.length)->n<(l[0]).num):sL l n=none:=by
 unfold sL;rw [List.find?_eq_none];intro v a;obtain ⟨i,hi,rfl⟩:=List.mem_iff_getElem.1 a;have b:=kQ h i hi
 grind
theorem zPq (h:OkV l) (e:0<l.length) {n:Int} (c:(l[0]).num<=n):sL l n=jP l (n-(l[0]).num):=by
 unfold jP;rw [if_pos (by omega)]
 by_cases hk:(n-(l[0]).num).toNat<l.length
 ·grind [bG,kQ]
 rw [List.getElem?_eq_none (by omega)];unfold sL;rw [List.find?_eq_none];intro v a;obtain ⟨i,hi,rfl⟩:=List.mem_iff_getElem.1 a;have b:=kQ h i hi
 grind
theorem zHb {n0:Nat} {w:World} {g:Nat} {d:List Vx} {vs:Value} (a:vB n0 w g d vs) (n:Int) (V:n<=9223372036854775807) :
  Calls Tryz.prog 200 #[.pointer (some ⟨g,0,none⟩),.int .i64 n] w fun e G=>vZ w (sL (d.map Vx.ver) n) e G:=by
 have c:Hid (Below w.heap.size w (w.alloc (.cells #[ii 0,iu 0,ii 0,.bool false,sc none 0 0] 42))):=(Below.refl _ _).alloc (Nat.le_refl _) _;have u:=a.on c.out;have j:=hid (uE u);have R:=a.few
 rcases Nat.eq_zero_or_pos d.length with q|q
 ·have k:Hid (sL (d.map Vx.ver) n=none):=zGT a.ok (fun h=>by grind);obtain ⟨p,H,rfl⟩:=zC.own_shape a.row;rw [k.out];rw [q] at j;go_enter Tryz.func200,Tryz.ntmps200;go_wp2_with fail;refine j.out.mono ?_;rintro e B ⟨rfl,rfl⟩;go_wp2_with fail
  exact bodyPost_ret (v:=.tuple #[.agg #[ii 0,iu 0,ii 0,.bool false,sc none 0 0],.bool false]) (by simp [results,Tryz.results200,go_sem]) rfl
   ⟨zY,rfl,cM,vH _ _,by
    first
    | exact (Below.refl _ _).alloc (Nat.le_refl _) _
    | exact (((((c.out.setCell (Nat.le_refl _) _).setCell (Nat.le_refl _) _).setCell (Nat.le_refl _) _).setCell (Nat.le_refl _) _).setCell (Nat.le_refl _) _)⟩
 have he':0<(d.map Vx.ver).length:=by rw [List.length_map];exact q
 have C:((d.map Vx.ver)[0]).num=(d[0]).num:=by rw [List.getElem_map];rfl
 have I:1<=(d[0]).num:=by rw [<-C];exact (a.ok.first _ (List.getElem_mem he')).1
 obtain ⟨p,H,rfl⟩:=zC.own_shape a.row
 obtain ⟨z,A,rfl,J⟩:∃b off,p=some (aa b off)/\KV.At w b off d:=by
  obtain ⟨Z,O,U,h⟩:=zC.own_is a.row
  grind
 have k1':=zC.at_kept J c.out;have o:=(zBQ k1' 0 q).1
 have P:((d.length:Int)==(0:Int))=false:=by
  rw [beq_eq_false_iff_ne];omega
 have T:(0:Int)<(d.length:Int):=by omega
 by_cases hn:n<(d[0]).num
 ·have k:Hid (sL (d.map Vx.ver) n=none):=zGT a.ok (fun h=>by omega);rw [k.out];obtain ⟨m,t⟩:∃m,(d[0]).num=m:=⟨_,rfl⟩;rw [t] at o hn;have y0':(w.alloc (.cells #[ii 0,iu 0,ii 0,.bool false,sc none 0 0] 42)).cell? (aa z A)=some (ii m):=by simpa using o
  go_enter Tryz.func200,Tryz.ntmps200
  go_wp2_with fail
  refine j.out.mono ?_;rintro e B ⟨rfl,rfl⟩;go_wp2_with fail
  exact bodyPost_ret (v:=.tuple #[.agg #[ii 0,iu 0,ii 0,.bool false,sc none 0 0],.bool false]) (by simp [results,Tryz.results200,go_sem]) rfl
   ⟨zY,rfl,cM,vH _ _,by
    first
    | exact (Below.refl _ _).alloc (Nat.le_refl _) _
    | exact (((((c.out.setCell (Nat.le_refl _) _).setCell (Nat.le_refl _) _).setCell (Nat.le_refl _) _).setCell (Nat.le_refl _) _).setCell (Nat.le_refl _) _)⟩
 have k:Hid (sL (d.map Vx.ver) n=jP (d.map Vx.ver) (n-(d[0]).num)):=by
  have:=zPq a.ok he' (n:=n) (by omega);rw [C] at this;exact this
 rw [k.out];have r:=hid (cN _ d (n-(d[0]).num) _ (zC.own_is u.row) u.fits a.few);obtain ⟨m,t⟩:∃m,(d[0]).num=m:=⟨_,rfl⟩;rw [t] at o hn I r ⊢;have y0':(w.alloc (.cells #[ii 0,iu 0,ii 0,.bool false,sc none 0 0] 42)).cell? (aa z A)=some (ii m):=by simpa using o
 have s:=hid (tY w);obtain ⟨N,i⟩:∃N,w.heap.size=N:=⟨_,rfl⟩;have F:(w.alloc (.cells #[ii 0,iu 0,ii 0,.bool false,sc none 0 0] 42)).heap.size=N+1:=by simp [i]
 rw [i] at s c;obtain ⟨D,y⟩:∃D,w.alloc (.cells #[ii 0,iu 0,ii 0,.bool false,sc none 0 0] 42)=D:=⟨_,rfl⟩;rw [y] at c s j r F y0';go_enter Tryz.func200,Tryz.ntmps200;go_wp2_with fail;(try rw [y]);refine j.out.mono ?_;rintro e B ⟨rfl,rfl⟩;go_wp2_with fail;refine r.out.mono ?_;rintro e w3 ⟨x,rfl,hx,hJ,hq3⟩;have f:=s.out.on hq3;obtain ⟨q0,q1,q2,q3,q4⟩:=f.cells;have S:=f.free 0;have Y:=f.free 1;have X:=f.free 2;have Q:=f.free 3;have W:=f.free 4;have K:=hid hx;have E:=hid (zJ hJ (M:=N+1) (by omega));have L:Hid (Below N w w3):=zA c.out (by omega) hq3;obtain ⟨xn,xs,xt,xl,xp,xc,xo⟩:=x;simp only [zF,Vx.sl] at E ⊢
 try simp only [i]
 go_wp2_with fail
 exact bodyPost_ret (v:=.tuple #[.agg #[ii xn,iu xs,ii xt,.bool xl,sc xp xo.length xc],.bool (jP (d.map Vx.ver) (n-m)).isSome]) (by simp [results,Tryz.results200,go_sem,q0,q1,q2,q3,q4]) rfl
  ⟨⟨xn,xs,xt,xl,xp,xc,xo⟩,rfl,K.out,by
   rw [i];refine zJ (N:=N+1) ?_ (by omega);exact zO (zO (zO (zO (zO E.out (by omega) _) (by omega) _) (by omega) _) (by omega) _) (by omega) _,by
   rw [i];exact ((((L.out.setCell (Nat.le_refl _) _).setCell (Nat.le_refl _) _).setCell (Nat.le_refl _) _).setCell (Nat.le_refl _) _).setCell (Nat.le_refl _) _⟩
theorem zNa {n0:Nat} {w:World} {g:Nat} {d:List Vx} {vs:Value} (f:vB n0 w g d vs) :
  Calls Tryz.prog 201 #[.pointer (some ⟨g,0,none⟩)] w fun e t=>vZ w (d.map Vx.ver).getLast? e t:=by
 have c:Hid (Below w.heap.size w (w.alloc (.cells #[ii 0,iu 0,ii 0,.bool false,sc none 0 0] 42))):=(Below.refl _ _).alloc (Nat.le_refl _) _;have i:=hid (tY w);obtain ⟨N,b⟩:∃N,w.heap.size=N:=⟨_,rfl⟩;have q:(w.alloc (.cells #[ii 0,iu 0,ii 0,.bool false,sc none 0 0] 42)).heap.size=N+1:=by simp [b]
 have h:=f.on c.out;have k:=hid (uE h);obtain ⟨p,y,rfl⟩:=zC.own_shape f.row;have j:=hid (cN _ d ((d.length:Int)-1) _ (zC.own_is h.row) h.fits f.few);have m:=hid (zMs (l:=d.map Vx.ver));rw [List.length_map] at m;have A:=f.few;rw [<-m.out];rw [b] at c i;obtain ⟨W1,hW1⟩:∃W1,w.alloc (.cells #[ii 0,iu 0,ii 0,.bool false,sc none 0 0] 42)=W1:=⟨_,rfl⟩;rw [hW1] at c i k j q;go_enter Tryz.func201,Tryz.ntmps201;go_wp2_with fail;(try rw [hW1]);refine k.out.mono ?_;rintro e w1 ⟨rfl,rfl⟩;go_wp2_with fail;refine j.out.mono ?_;rintro e w3 ⟨x,rfl,hx,hJ,hq3⟩;have a:=i.out.on hq3;obtain ⟨q0,q1,q2,q3,q4⟩:=a.cells;have u:=a.free 0;have D:=a.free 1;have B:=a.free 2;have C:=a.free 3;have z:=a.free 4;have r:=hid hx;have o:=hid (zJ hJ (M:=N+1) (by omega));have s:Hid (Below N w w3):=zA c.out (by omega) hq3;obtain ⟨xn,xs,xt,xl,xp,xc,xo⟩:=x;simp only [zF,Vx.sl] at o ⊢
 try simp only [b]
 go_wp2_with fail
 exact bodyPost_ret (v:=.tuple #[.agg #[ii xn,iu xs,ii xt,.bool xl,sc xp xo.length xc],.bool (jP (d.map Vx.ver) ((d.length:Int)-1)).isSome]) (by simp [results,Tryz.results201,go_sem,q0,q1,q2,q3,q4]) rfl
  ⟨⟨xn,xs,xt,xl,xp,xc,xo⟩,rfl,r.out,by
   rw [b];refine zJ (N:=N+1) ?_ (by omega);exact zO (zO (zO (zO (zO o.out (by omega) _) (by omega) _) (by omega) _) (by omega) _) (by omega) _,by
   rw [b];exact ((((s.out.setCell (Nat.le_refl _) _).setCell (Nat.le_refl _) _).setCell (Nat.le_refl _) _).setCell (Nat.le_refl _) _).setCell (Nat.le_refl _) _⟩
theorem zPv (a:vB n0 w g d vs) :
  Calls Tryz.prog 107 #[.pointer (some ⟨g,0,none⟩)] w fun e b=>e=.returned (.int .i64 (d.length:Int))/\b=w:=by
 have c:=hid (uE a);obtain ⟨p,f,rfl⟩:=zC.own_shape a.row;go_enter Tryz.func107,Tryz.ntmps107;go_wp2_with fail;refine c.o.mono ?_;rintro e w1 ⟨rfl,rfl⟩;go_wp2_with fail;go_ret;exact ⟨rfl,rfl⟩
end
end
section
open Go.RowKit
section
variable {n0 cap g:Nat} {w:World} {p:Option Addr} {d:List Vx} {vs:Value}
theorem cY (h:KV.Own n0 w (.slice p d.length cap) d):d.length<=cap/\(p=none->d.length=0/\cap=0):=by
 rcases h.2 with ⟨a,b⟩|⟨g,c,e,a,_,_,b,_⟩
 ·grind
 grind
def zGc (p:Option Addr) (n cap k:Nat):Value:=.slice (if cap=k then p else p.map (·.add (k * 5))) (n-k) (cap-k)
theorem zJZ (h:KV.Own n0 w (.slice p d.length cap) d) (k:Nat) (i:k<=d.length):KV.Is w (zGc p d.length cap k) (d.drop k):=by
 obtain ⟨j,_⟩:=cY h;unfold zGc;refine ⟨_,_,by rw [List.length_drop],?_⟩
 by_cases hl:k=d.length
 ·grind
 right;obtain ⟨m,l,c,a⟩:=zC.own_is h;injection c with e1 _ _
 subst e1
 rcases a with a|⟨b,e,rfl,f⟩
 ·grind
 rw [if_neg (by omega)];exact ⟨b,e+k * 5,by simp [addr_add],zPO k f⟩
theorem zK0 (b:vB n0 w g d vs) (t:Int) :
  Calls Tryz.prog 196 #[.pointer (some ⟨g,0,none⟩),.int .u64 t] w fun e q=>vT w (vE (d.map Vx.ver) t) e q:=by
 have v:=hid (uE b);obtain ⟨p,cap,rfl⟩:=zC.own_shape b.row;have l:=hid (nF _ d t w (zC.own_is b.row) b.ok.rise b.few);have hcut:=wK (d.map Vx.ver) t;rw [List.length_map] at hcut;have B:=(cY b.row).1
 have z:cap<=maxLen:=by
  rcases b.row.2 with ⟨r,_⟩|⟨_,c,_,r,_,_,_,y,_⟩
  ·grind
  grind
 unfold maxLen at z;have F:=(cY b.row).2;unfold vE;obtain ⟨c,A⟩:=eE (vF (d.map Vx.ver) t);rw [A] at l hcut ⊢
 have h:Hid (∀W,Bw w W->CC 245 #[zGc p d.length cap c] W fun e q=>vT W ((d.map Vx.ver).drop c) e q):=fun W s=>by
  rw [<-List.map_drop];exact zBY _ (d.drop c) W (zC.is_kept (zJZ b.row c hcut) s) (fun x j=>(b.on s).fits x (List.mem_of_mem_drop j)) (by rw [List.length_drop];have:=b.few;omega)
 have r:(0:Int)<=(c:Int):=by omega
 have y:(c:Int)<=(d.length:Int):=by omega
 have E:(d.length:Int)<=(cap:Int):=by omega
 have D:(c:Int)<=(cap:Int):=by omega
 unfold zGc at h
 by_cases hcc:cap=c
 ·subst hcc;rw [if_pos rfl] at h;obtain rfl:d.length=cap:=by omega
  go_enter Tryz.func196,Tryz.ntmps196
  go_wp2_with fail
  refine v.o.mono ?_;rintro e n ⟨rfl,rfl⟩;go_wp2_with fail;refine l.o.mono ?_;rintro e w2 ⟨rfl,hq2⟩;have k:=hid (h.o w2 hq2);have i:=hid hq2;simp only [Nat.sub_self] at k;go_wp2_with fail;refine k.o.mono ?_;rintro e w3 ⟨u,o,rfl,a1,a2,a3,a4,a5⟩;have f:=i.o.size;have m:Hid (vT n ((d.map Vx.ver).drop d.length) (.returned u) w3):=⟨u,o,rfl,zC.own_weak a1 f,fun x j=>zJ (a2 x j) f,a3,a4,zA i.o f a5⟩;go_wp2_with fail;go_ret;exact m.o
 rw [if_neg hcc] at h
 obtain ⟨a,rfl⟩:∃a,p=some a:=by
  cases p with
  | none=>grind
  | some a=>grind
 have C:¬ (cap:Int)=(c:Int):=by omega
 go_enter Tryz.func196,Tryz.ntmps196
 go_wp2_with fail
 refine v.o.mono ?_;rintro e n ⟨rfl,rfl⟩;go_wp2_with fail;refine l.o.mono ?_;rintro e w2 ⟨rfl,hq2⟩;have k:=hid (h.o w2 hq2);have i:=hid hq2;go_wp2_with fail;refine k.o.mono ?_;rintro e w3 ⟨u,o,rfl,a1,a2,a3,a4,a5⟩;have f:=i.o.size;have m:Hid (vT n ((d.map Vx.ver).drop c) (.returned u) w3):=⟨u,o,rfl,zC.own_weak a1 f,fun x j=>zJ (a2 x j) f,a3,a4,zA i.o f a5⟩;go_wp2_with fail;go_ret;exact m.o
def qO (n0:Nat) (w:World) (g:Nat) (d:List Vx) (vs:Value) (l:List Vr) (w':World):Prop :=
 ∃d' vs',vB n0 w' g d' vs'/\d'.map Vx.ver=l/\(∀k,zB2 g d' vs' k->zB2 g d vs k∨w.heap.size<=k)/\Fr (zB2 g d vs) w w'
theorem qO.same {W:World} (b:vB n0 w g d vs) (a:Below w.heap.size w W):qO n0 w g d vs (d.map Vx.ver) W :=
 ⟨d,vs,b.on a,rfl,fun _ h=>Or.inl h,Fr.of_below a⟩
theorem zJE {l:List Vr} {n:Nat} (h:n<l.length):yG (l.drop n)=yG l:=by grind [yG]
theorem zKK (i:vB n0 w g d vs) (f:Int) :
  Calls Tryz.prog 121 #[.pointer (some ⟨g,0,none⟩),.int .u64 f] w fun e r=>e=.returned (.int .i64 (vQ (d.map Vx.ver) f:Nat))/\qO n0 w g d vs (vP (d.map Vx.ver) f) r:=by
 have j:=hid i;have A:=hid (uE i);obtain ⟨p,cap,rfl⟩:=zC.own_shape i.row;have q:=hid (nF _ d f w (zC.own_is i.row) i.ok.rise i.few);have hcut:=wK (d.map Vx.ver) f;rw [List.length_map] at hcut;have T:=(cY i.row).1;have O:=i.few;unfold vP vQ;obtain ⟨c,hc⟩:=eE (vF (d.map Vx.ver) f);rw [hc] at q hcut ⊢
 by_cases h1:c<=1
 ·have t:c-1=0:=by omega
  rw [t,List.drop_zero];have H:(c:Int)-1<=0:=by omega
  go_enter Tryz.func121,Tryz.ntmps121
  go_wp2_with fail
  refine A.o.mono ?_;rintro e y ⟨rfl,rfl⟩;go_wp2_with fail;refine q.o.mono ?_;rintro e w2 ⟨rfl,hq2⟩;have n:=hid hq2;go_wp2_with fail;go_ret;exact ⟨rfl,qO.same j.o n.o⟩
 obtain ⟨m,rfl⟩:∃m,c=m+1:=⟨c-1,by omega⟩;have t:m+1-1=m:=by omega
 rw [t];have B:((m+1:Nat):Int)=(m:Int)+1:=by omega
 rw [B] at q;have H:¬ (m:Int)<=0:=by omega
 have R:m<d.length:=by omega
 have U:0<m:=by omega
 obtain ⟨b,J⟩:∃b,p=some (aa b 0):=by
  rcases i.row.2 with ⟨h,_⟩|⟨b,_,_,h,_⟩
  ·omega
  grind
 subst J
 have G:Hid (∀W,Bw w W->CC 173 #[sc (some (aa b (m * 5))) (d.length-m) (cap-m)] W fun e r=>∃u,e=.returned u/\KV.Own W.heap.size r u (d.drop m)/\Bw W r):=fun W C=>by
  have:=zJZ i.row m (by omega);unfold zGc at this;rw [if_neg (by omega)] at this;have E:(some ((aa b 0):Addr)).map (·.add (m * 5))=some (aa b (m * 5)):=by simp [addr_add]
  rw [E] at this;exact zCl _ (d.drop m) W (zC.is_kept this C) (by grind)
 have S:(0:Int)<=(m:Int):=by omega
 have V:(m:Int)<=(d.length:Int):=by omega
 have M:(d.length:Int)<=(cap:Int):=by omega
 have Z:(m:Int)<=(cap:Int):=by omega
 have P:¬ cap=m:=by omega
 go_enter Tryz.func121,Tryz.ntmps121
 go_wp2_with fail
 refine A.o.mono ?_;rintro e y ⟨rfl,rfl⟩;go_wp2_with fail;refine q.o.mono ?_;rintro e w2 ⟨rfl,hq2⟩;have n:=hid hq2;have Y:=(j.o.on hq2).cell;have F:=hid (G.o w2 hq2);go_wp2_with fail;refine F.o.mono ?_;rintro e w3 ⟨u,rfl,a1,a2⟩;obtain ⟨pu,cu,hu⟩:=zC.own_shape a1;have s:=(j.o.on n.o).on a2;have D:=s.cell;have I:=s.free;have K:=zA n.o n.o.size a2
 have z:Hid (qO n0 y g d (sc (some (aa b 0)) d.length cap) ((d.map Vx.ver).drop m) (w3.setCell (aa g 0) u)):=by
  have v:Fr (fun k=>k=g) w3 (w3.setCell (aa g 0) u):=Fr.of_grown (xN w3 g 0 u) fun k a=>by grind
  have Q:g<y.heap.size:=zH j.o.cell;have L:=j.o.base;have N:=n.o.size;have X:∀k,u.ownBlock=some k->w2.heap.size<=k:=fun k a=>(World.ownsRow.lt (show w3.ownsRow w2.heap.size 42 5 u (d.drop m).length (KV.cells (d.drop m)) from a1) k a).1
  refine ⟨d.drop m,u,⟨?_,?_,L,?_,fun x l=>?_,?_,?_,?_⟩,List.map_drop.symm▸rfl,?_,?_⟩
  ·simp [go_sem,D]
  ·simp [go_sem,I]
  ·exact v.row (show w3.ownsRow n0 42 5 u (d.drop m).length (KV.cells (d.drop m)) from own_weak a1 (by omega)) fun k a e=>by grind
  ·have hx':=s.each x (List.mem_of_mem_drop l);exact ⟨yD hx'.1 v fun k a e=>j.o.off k (Or.inr ⟨x,List.mem_of_mem_drop l,a⟩) e,hx'.2⟩
  ·rintro k (a|⟨x,l,a⟩)
   ·grind
   exact j.o.off k (Or.inr ⟨x,List.mem_of_mem_drop l,a⟩)
  ·rw [List.map_drop];exact zEX j.o.ok _
  ·rw [List.map_drop,zJE (by grind)];exact j.o.top
  ·rintro k (rfl|a|⟨x,l,a⟩)
   ·exact Or.inl (Or.inl rfl)
   ·grind
   exact Or.inl (Or.inr (Or.inr ⟨x,List.mem_of_mem_drop l,a⟩))
  exact (Fr.of_below K).then v fun k a=>Or.inl (Or.inl a)
 subst hu;rw [List.length_drop] at z;go_wp2_with fail;go_ret;exact ⟨rfl,z.o⟩
theorem zJd (w:World):Calls Tryz.prog 166 #[] w fun e b=>e=.returned (.pointer (some ⟨w.heap.size,0,none⟩))/\vB w.heap.size b w.heap.size [] (.slice none 0 0)/\Below w.heap.size w b:=by
 have f:Hid (vB w.z (w.alloc (.cells #[sc none 0 0] 265)) w.z [] (sc none 0 0)):=by
  refine ⟨by simp [go_sem],?_,Nat.le_refl _,KV.own_nil _ _,fun x a=>by simp at a,?_,zM5,by decide⟩
  ·grind [World.frozen?,heap_alloc_new]
  rintro k (c|⟨x,a,_⟩)
  ·cases c
  simp at a
 go_enter Tryz.func166,Tryz.ntmps166
 go_wp2_with fail
 go_ret;exact ⟨rfl,f.o,(Below.refl _ _).alloc (Nat.le_refl _) _⟩
end
end
section
open Go.RowKit
section
variable {w W:World} {N:Nat} {x:Vx}
def xH (d:List Vx):Vx:=d.getLast?.getD zY
theorem sR (d:List Vx):(xH d).ver=yG (d.map Vx.ver):=by
 unfold xH yG;rw [List.getLast?_map]
 cases d.getLast?<;>rfl
def uD (l:List Vr) (stamp:Int) (live:Bool) (val:List Fld):Int:=mY 8 3 6 (yU val) l stamp live
def zAy (l:List Vr) (stamp:Int) (live:Bool) (val:List Fld):Int:=if uD l stamp live val=0 then (yG l).num+1 else 0
def zA1 (l:List Vr) (stamp tick:Int) (live:Bool) (val:List Fld):List Vr:=if uD l stamp live val=0 then pA l stamp tick live val else l
def wI (w:World) (N:Nat) (x:Vx):Prop:=w.heap[N]? = some (.cells (zF x).toArray 42 (0,0))
theorem wI.cells (h:wI w N x):zAp w N 0 x:=by
 unfold wI at h;refine ⟨?_,?_,?_,?_,?_⟩<;>(rw [Lib.cell_of_heap h];rfl)
theorem wI.free (h:wI w N x) (j:Nat):w.frozen? ⟨N,j,none⟩=false:=by grind [wI,World.frozen?]
theorem wI.lt (h:wI w N x):N<w.heap.size:=by grind [wI]
theorem wI.on (h:wI w N x) (a:Below w.heap.size w W):wI W N x:=(a.block N h.lt).trans h
theorem zAj {ops:Array Oper} {o:Oper} {a:Act} {K:Act->World->Prop} {Q:Exit->Act->World->Prop} {E:Prop} (w:World) (n:o.guard=none) (s x:Operand)
  (ho:o.op=.call { callee:=.builtin .append,args:=#[s,x],argTypes:=#[44,44] }) (N:Nat) (v:Value) (d:List Vx) (hs:a.eval s=v) (hoj:KV.Own N w v d) (B:Nat) (f:Vx)
  (hx:a.eval x=.slice (some ⟨B,0,none⟩) 1 1) (hB:wI w B f) (hl:d.length<=2400000000000) (hN:N<=w.heap.size)
  (h:∀g c b,KV.Own N b (.slice (some ⟨g,0,none⟩) (d.length+1) c) (d++[f])->w.grownBy b v.ownBlock->(v.ownBlock=some g∨g=w.heap.size)->K (a.put o.dst (.slice (some ⟨g,0,none⟩) (d.length+1) c)) b) :
  if Region.wanted o (yielded ops a.tmps)=true then Oper.wp Tryz.prog o a w K Q else E:=by
 obtain ⟨l,hj,r,p,q⟩:=info_parts Tryz.infoVer;refine step_append_lies w n s x 44 ho N 42 l (.agg #[ii 0,iu 0,ii 0,.bool false,sc none 0 0]) 5 56 Tryz.underlying44 hj r p q rfl (by decide) v d.length (KV.cells d) hs hoj (aa B 0) 1 1 (KV.cells [f]) hx rfl (fun j u e=>?_) (KV.cells_ones _) (by decide) (by unfold maxLen;omega) (by omega) hN _ rfl (fun g c b i k m _=>h g c b (zC.own_snoc i rfl rfl) k m);rw [zC.cells_one] at e;exact World.news_of_block hB j u e
theorem vB.push {n0:Nat} {w4:World} {g:Nat} {d:List Vx} {p:Option Addr} {j:Nat} (i:vB n0 w g d (.slice p d.length j)) (q:Below w.heap.size w W) (x:Vx) (z:zW w.heap.size W x.sl x.o) (C:yU (x.o.map Fx.fld)=true)
  {b c:Nat} (ho:KV.Own n0 w4 (.slice (some ⟨b,0,none⟩) (d.length+1) c) (d++[x])) (hg:W.grownBy w4 (Value.slice p d.length j).ownBlock) (hat:(Value.slice p d.length j).ownBlock=some b∨w.heap.size<=b)
  (hok:OkV ((d++[x]).map Vx.ver)) (htop:x.num<=2400000000000) :
  qO n0 w g d (.slice p d.length j) ((d++[x]).map Vx.ver) (w4.setCell ⟨g,0,none⟩ (.slice (some ⟨b,0,none⟩) (d.length+1) c)):=by
 have B:g<w.heap.size:=zH i.cell;have m:=i.on q;have A:=i.base;have D:=q.size;have n:Fr (fun k=>(Value.slice p d.length j).ownBlock=some k) W w4:=Fr.of_grown hg fun k f=>f
 have r:Fr (fun k=>k=g) w4 (w4.setCell (aa g 0) (sc (some (aa b 0)) (d.length+1) c)):=Fr.of_grown (xN w4 g 0 _) fun k f=>by grind
 have E:b≠g:=by
  rcases hat with h|h
  ·exact i.off b (Or.inl h)
  omega
 have s:w4.cell? (aa g 0)=some (sc p d.length j):=n.cell m.cell fun h=>i.off g (Or.inl h) rfl
 have v:w4.frozen? (aa g 0)=false:=by
  have l:=m.free;unfold World.frozen? at l ⊢;rw [n.block g (by omega) fun h=>i.off g (Or.inl h) rfl];exact l
 have hj:∀y∈d++[x],zW n0 W y.sl y.o/\yU (y.o.map Fx.fld)=true:=fun y a=>by
  rcases List.mem_append.1 a with a|a
  ·exact m.each y a
  grind [zJ]
 have t:∀k,zHX x k->w.heap.size<=k:=fun k f=>(yN z k f).1
 refine ⟨d++[x],sc (some (aa b 0)) (d.length+1) c,⟨by simp [go_sem,s],by simp [go_sem,v],A,?_,fun y a=>?_,?_,hok,?_⟩,rfl,?_,?_⟩
 ·exact r.row (show w4.ownsRow n0 42 5 (sc (some (aa b 0)) (d.length+1) c) (d++[x]).length (KV.cells (d++[x])) from ho) fun k f e=>by grind [Value.ownBlock]
 ·obtain ⟨l,u⟩:=hj y a;refine ⟨yD (yD l n fun k f e=>zJ0 m.row l k e f) r fun k f e=>?_,u⟩
  rcases List.mem_append.1 a with a|a
  ·exact i.off k (Or.inr ⟨y,a,f⟩) e
  rw [List.mem_singleton] at a;subst a;have:=t k f;omega
 ·rintro k (f|⟨y,a,f⟩)
  ·grind [Value.ownBlock]
  rcases List.mem_append.1 a with a|a
  ·exact i.off k (Or.inr ⟨y,a,f⟩)
  grind
 ·grind [yG,Vx.ver]
 ·rintro k (rfl|f|⟨y,a,f⟩)
  ·exact Or.inl (Or.inl rfl)
  ·have:b=k:=by simpa [Value.ownBlock] using f
   subst this
   rcases hat with h|h
   ·exact Or.inl (Or.inr (Or.inl h))
   omega
  rcases List.mem_append.1 a with a|a
  ·exact Or.inl (Or.inr (Or.inr ⟨y,a,f⟩))
  grind
 exact ((Fr.of_below q).then n fun k f=>Or.inl (Or.inr (Or.inl f))).then r fun k f=>Or.inl (Or.inl f)
end
end
section
open Go.RowKit
section
variable {l:List Vr} {stamp tick:Int} {live:Bool} {val:List Fld} {n0 cap g:Nat} {w W:World} {d:List Vx} {p:Option Addr} {vs:Value}
theorem zJf (h:OkV l):0<=(yG l).stamp:=by
 rcases Nat.eq_zero_or_pos l.length with e|e
 ·obtain rfl:=List.length_eq_zero_iff.1 e;exact Int.le_refl _
 rw [uF e];have:=(h.first _ (List.getElem_mem (show l.length-1<l.length by omega))).2.1;omega
theorem zNM (h:stamp<=(yG l).stamp):uD l stamp live val=8:=by grind [uD,mY]
theorem zPz (a:0<=(yG l).stamp) (h:¬ stamp<=(yG l).stamp) :
  uD l stamp live val=if live=true/\yU val=false then 3 else if live=false/\(yG l).live=false then 6 else 0:=by grind [uD,mY]
theorem zPJ {b n:Nat} (h:KV.Own n0 w (.slice (some ⟨b,0,none⟩) n cap) d) (f:0<d.length):KV.At w b 0 d:=by
 obtain ⟨i,e,c,a⟩:=zC.own_is h
 grind
def zQg (w:World) (d:List Vx) (p:Option Addr) (L:Vx):Prop :=
 (d=[]/\L=zY)∨∃b k,d.length=k+1/\p=some ⟨b,0,none⟩/\zAp w b (k * 5) L
theorem zJS (c:vB n0 w g d (.slice p d.length cap)):zQg w d p (xH d):=by
 rcases Nat.eq_zero_or_pos d.length with a|a
 ·obtain rfl:=List.length_eq_zero_iff.1 a;exact Or.inl ⟨rfl,rfl⟩
 right
 obtain ⟨f,rfl⟩:∃b,p=some (aa b 0):=by
  rcases c.row.2 with ⟨h,_⟩|⟨b,_,_,h,_⟩
  ·omega
  grind
 obtain ⟨k,e⟩:∃k,d.length=k+1:=⟨d.length-1,by omega⟩
 have i:xH d=d[k]:=by
  unfold xH;rw [List.getLast?_eq_getElem?,show d.length-1=k by omega,List.getElem?_eq_getElem (by omega)];rfl
 have:=zBQ (zPJ c.row a) k (by omega);rw [Nat.zero_add] at this;refine ⟨f,k,e,rfl,?_⟩;rw [i];exact this
theorem kY (e:vB n0 w g d vs) {stamp tick:Int} {live:Bool} {val:List Fld} {c:Int} (b:uD (d.map Vx.ver) stamp live val=c) (a:c≠0) {W:World} (f:Below w.heap.size w W) :
  Value.tuple #[.int .i64 0,.int .i64 c]=Value.tuple #[.int .i64 (zAy (d.map Vx.ver) stamp live val),.int .i64 (uD (d.map Vx.ver) stamp live val)]/\qO n0 w g d vs (zA1 (d.map Vx.ver) stamp tick live val) W:=by
 unfold zAy zA1;rw [b,if_neg a,if_neg a]
 grind [qO.same]
theorem zJg {w4:World} (a:vB n0 w g d (.slice p d.length cap)) {stamp tick:Int} {live:Bool} {val:List Fld} (e:0<=stamp) (f:uD (d.map Vx.ver) stamp live val=0) (j:(yG (d.map Vx.ver)).num<2400000000000)
  (hb:Below w.heap.size w W) {pu:Option Addr} {cu:Nat} {o:List Fx} (hx:zW w.heap.size W (.slice pu o.length cu) o) (hm:yU (o.map Fx.fld)=true) (hv:o.map Fx.fld=if live=true then val else [])
  {b c:Nat} (ho:KV.Own n0 w4 (.slice (some ⟨b,0,none⟩) (d.length+1) c) (d++[⟨(xH d).num+1,stamp,tick,live,pu,cu,o⟩])) (hg:W.grownBy w4 (Value.slice p d.length cap).ownBlock) (hat:(Value.slice p d.length cap).ownBlock=some b∨w.heap.size<=b) :
  Value.tuple #[.int .i64 ((xH d).num+1),.int .i64 0]=Value.tuple #[.int .i64 (zAy (d.map Vx.ver) stamp live val),.int .i64 (uD (d.map Vx.ver) stamp live val)]/\qO n0 w g d (.slice p d.length cap) (zA1 (d.map Vx.ver) stamp tick live val) (w4.setCell ⟨g,0,none⟩ (.slice (some ⟨b,0,none⟩) (d.length+1) c)):=by
 have h:(xH d).num=(yG (d.map Vx.ver)).num:=by rw [<-sR];rfl
 have k:(d++[(⟨(xH d).num+1,stamp,tick,live,pu,cu,o⟩:Vx)]).map Vx.ver=pA (d.map Vx.ver) stamp tick live val:=by
  rw [List.map_append];unfold pA
  congr 1
  show [Vr.mk _ _ _ _ _]=_
  rw [hv,h]
 have i:OkV (pA (d.map Vx.ver) stamp tick live val):=zMT a.ok e (by decide) (by decide) (by decide) f;have m:=a.push hb ⟨(xH d).num+1,stamp,tick,live,pu,cu,o⟩ hx hm ho hg hat (by grind) (by grind)
 grind [zAy,zA1]
structure zQp (n0:Nat) (w:World) (g:Nat) (d:List Vx) (vs:Value) (W5:World) (M S:Nat) (X:Vx):Prop where
 cell:W5.cell? ⟨g,0,none⟩=some vs
 free:W5.frozen? ⟨g,0,none⟩=false
 new:zAp W5 M 0 X
 next:∀ob,(W5.alloc ob).cell? ⟨g,0,none⟩=some vs
 own:∀ob,KV.Own n0 (W5.alloc ob) vs d
 big:∀ob,n0<=(W5.alloc ob).heap.size
 lies:wI (W5.alloc (.cells (zF X).toArray 42)).drew S X
 then_:∀ob w6,(W5.alloc ob).drew.grownBy w6 vs.ownBlock->w6.cell? ⟨g,0,none⟩=some vs/\w6.frozen? ⟨g,0,none⟩=false/\w6.cell? ⟨M,0,none⟩=some (.int .i64 X.num)
 ne:¬ M=g
 bel:∀ob,Below w.heap.size w (W5.alloc ob).drew
 high:∀ob b,b=(W5.alloc ob).drew.heap.size->w.heap.size<=b
theorem zFJ (f:vB n0 w g d vs) {c:World} {M S:Nat} {X:Vx} (j:Below w.heap.size w c) (i:wI c M X) (x:w.heap.size<=M) (s:c.heap.size=S):zQp n0 w g d vs c M S X:=by
 have h:=f.on j;have t:g<w.heap.size:=zH f.cell;have q:=j.size;have u:=i.lt
 refine ⟨h.cell,h.free,i.cells,fun a=>zEC a h.cell,fun a=>zC.own_on h.row ((Below.refl _ _).alloc (Nat.le_refl _) _),fun a=>by have:=f.base;simp;omega,?_,fun a o m=>?_,by omega,fun a=>zG (j.alloc q _) 1,fun a b v=>by
  have e:(c.alloc a).drew.heap.size=c.heap.size+1:=by show (c.alloc a).heap.size=_;simp
  omega⟩
 ·rw [<-s];exact heap_alloc_new c _
 have k:=h.on ((Below.refl _ _).alloc (Nat.le_refl _) a);have n:o.heap[g]? = (c.alloc a).heap[g]?:=m.block g (by show g<(c.alloc a).heap.size;simp;omega) fun e=>f.off g (Or.inl e.symm) rfl
 have r:o.heap[M]? = (c.alloc a).heap[M]?:=m.block M (by show M<(c.alloc a).heap.size;simp;omega) fun e=>by
  have:=(f.blk M (Or.inr (Or.inl e.symm))).2;omega
 exact ⟨(World.cell?_of_block n).trans k.cell,(World.frozen?_of_block n).trans k.free,(World.cell?_of_block r).trans (zEC a i.cells.1)⟩
theorem zMR (f:vB n0 w g d vs) (stamp tick:Int) (v:Value) (val:List Fld) (h0:0<=stamp) (V:(yG (d.map Vx.ver)).num<2400000000000) :
  Calls Tryz.prog 167 #[.pointer (some ⟨g,0,none⟩),.int .u64 stamp,.int .i64 tick,.bool false,v] w fun r w' =>
   r=.returned (.tuple #[.int .i64 (zAy (d.map Vx.ver) stamp false val),.int .i64 (uD (d.map Vx.ver) stamp false val)])/\qO n0 w g d vs (zA1 (d.map Vx.ver) stamp tick false val) w':=by
 have ab:Hid (Bw w (w.alloc (.cells #[ii 0,iu 0,ii 0,.bool false,sc none 0 0] 42))):=(Below.refl _ _).alloc (Nat.le_refl _) _;have i:Hid (Bw w (w.alloc (.cells (zF (xH d)).toArray 42))):=(Below.refl _ _).alloc (Nat.le_refl _) _;have J:Hid (wI (w.alloc (.cells (zF (xH d)).toArray 42)) w.heap.size (xH d)):=heap_alloc_new w _;have U:=f.on ab.o;have S:=f.on i.o;have n:=hid f;have ad:=f.few;obtain ⟨p,cap,rfl⟩:=zC.own_shape f.row;have z:=U.cell;have H:=S.cell;have G:=S.free;have aj:=zJf f.ok;have an:(xH d).stamp=(yG (d.map Vx.ver)).stamp:=by rw [<-sR];rfl
 have ah:(xH d).live=(yG (d.map Vx.ver)).live:=by rw [<-sR];rfl
 have P:(xH d).num=(yG (d.map Vx.ver)).num:=by rw [<-sR];rfl
 have Q:0<=(xH d).num:=by have:=zEx f.ok;rw [P];omega
 have m:=hid (zJS U)
 have B:Hid ((xH d).stamp<stamp∨uD (d.map Vx.ver) stamp false val=8):=by
  rcases Int.lt_or_le (xH d).stamp stamp with h|h
  ·grind
  grind [zNM]
 have u:Hid ((xH d).stamp<stamp->uD (d.map Vx.ver) stamp false val=if (xH d).live=false then 6 else 0):=fun h=>by
  rw [zPz aj (by omega),if_neg (by simp),ah];simp
 have F:(xH d).num<2400000000000:=by rw [P];exact V
 have A:Hid (∀(W t:World) (b c:Nat),uD (d.map Vx.ver) stamp false val=0->Bw w W->KV.Own n0 t (sc (some (aa b 0)) (d.length+1) c) (d++[⟨(xH d).num+1,stamp,tick,false,none,0,[]⟩])->W.grownBy t (Value.slice p d.length cap).ownBlock->((Value.slice p d.length cap).ownBlock=some b∨w.heap.size<=b)->_):=fun W t b c hc hb X hg ak=>zJg (W:=W) (w4:=t) f (tick:=tick) h0 hc V hb (pu:=none) (cu:=0) (o:=[]) (vH _ _) qX rfl X hg ak
 obtain ⟨L,Y⟩:=eE (xH d);rw [Y] at i m B u A Q F H G J;obtain ⟨xn,xs,xt,xl,xp,xc,xo⟩:=L;simp only [zF,Vx.sl] at i m B u A Q F H G J
 by_cases E:xs<stamp
 ·have hs':¬ stamp<=xs:=by omega
  cases xl with
  | false =>
   have j:=hid (u.o E);rw [if_pos rfl] at j
   rcases m.o with ⟨rfl,s⟩|⟨y,k,e,rfl,K,O,I,M,q⟩
   ·cases s;have e0:([]:List Vx).length=0:=rfl;go_enter Tryz.func167,Tryz.ntmps167;go_wp2_with fail
    go_ret2
    have:=kY (tick:=tick) n.o j.o (by decide) i.o;exact ⟨congrArg Ending.returned this.1,this.2⟩
   rw [e] at z;simp only [Vx.sl] at q;go_enter Tryz.func167,Tryz.ntmps167;go_wp2_with fail
   go_ret2
   have:=kY (tick:=tick) n.o j.o (by decide) i.o
   simp_all
  | true =>
  have j:=hid (u.o E);rw [if_neg (by simp)] at j
  rcases m.o with ⟨rfl,s⟩|⟨y,k,e,rfl,K,O,I,M,q⟩
  ·cases s
  rw [e] at z;simp only [Vx.sl] at q;go_enter Tryz.func167,Tryz.ntmps167;go_wp2_with fail;obtain ⟨N,x⟩:=eE w.heap.size;obtain ⟨W5,hW5⟩:=eE ((w.alloc (.cells #[ii xn,iu xs,ii xt,.bool true,sc xp xo.length xc] 42)).alloc (.cells #[ii (xn+1),iu stamp,ii tick,.bool false,sc none 0 0] 42));have ae:Bw w W5:=by rw [<-hW5];exact i.o.alloc (by simp) _
  have ag:W5.heap.size=N+2:=by rw [<-hW5,<-x];simp
  have af:wI W5 (N+1) ⟨xn+1,stamp,tick,false,none,0,[]⟩:=by
   rw [<-hW5,<-x];exact heap_alloc2_new w _ _
  have a:=hid (zFJ n.o ae af (by omega) ag);obtain ⟨q0,q1,q2,q3,Z⟩:=a.o.new;have q4:W5.cell? (aa (N+1) (0+4))=some (sc none 0 0):=Z;have c5:=a.o.cell;have z5:=a.o.free;have a5:=a.o.next;have al:=a.o.ne;rw [e] at c5 a5;try rw [hW5];try rw [x]
  go_region_law (first
   | (refine zAj _ (by rfl) (.tmp 64) (.tmp 66) (by rfl) n0 (sc (some (aa y 0)) (k+1) cap) d (by rfl) (by rw [<-e];exact a.o.own _) _ ⟨xn+1,stamp,tick,false,none,0,[]⟩ (by rfl) (by exact a.o.lies) ad (a.o.big _) ?_;intro b6 ai w6 ac C T;rw [<-e] at C T;obtain ⟨ap,ao,am⟩:=a.o.then_ _ _ C))
  all_goals
   have D:=hid (A.o _ w6 b6 ai j.o (a.o.bel _) ac C (T.imp id (a.o.high _ _)));rw [e] at D;go_wp2_with fail
   go_ret2
   exact ⟨congrArg Ending.returned D.o.1,D.o.2⟩
 have hs':stamp<=xs:=by omega
 have R:Hid (uD (d.map Vx.ver) stamp false val=8):=by
  rcases B.o with h|h
  ·omega
  exact h
 rcases m.o with ⟨rfl,s⟩|⟨y,k,e,rfl,K,O,I,M,q⟩
 ·cases s;have e0:([]:List Vx).length=0:=rfl;go_enter Tryz.func167,Tryz.ntmps167;go_wp2_with fail
  go_ret2
  have:=kY (tick:=tick) n.o R.o (by decide) i.o;exact ⟨congrArg Ending.returned this.1,this.2⟩
 rw [e] at z;simp only [Vx.sl] at q;go_enter Tryz.func167,Tryz.ntmps167;go_wp2_with fail
 go_ret2
 have:=kY (tick:=tick) n.o R.o (by decide) i.o
 simp_all
end
end
section
open Go.RowKit
section
variable {n0 g:Nat} {w:World} {d:List Vx} {vs:Value}
theorem zMW (E:vB n0 w g d vs) (a tick:Int) (v:Value) (e:List Fx) (m:List Fld) (hv:wJ w v e) (hf:xB e) (ar:e.map Fx.fld=m) (h0:0<=a) (an:(yG (d.map Vx.ver)).num<2400000000000) :
  Calls Tryz.prog 167 #[.pointer (some ⟨g,0,none⟩),.int .u64 a,.int .i64 tick,.bool true,v] w fun r w' =>
   r=.returned (.tuple #[.int .i64 (zAy (d.map Vx.ver) a true m),.int .i64 (uD (d.map Vx.ver) a true m)])/\qO n0 w g d vs (zA1 (d.map Vx.ver) a tick true m) w':=by
 have av:Hid (Bw w (w.alloc (.cells #[ii 0,iu 0,ii 0,.bool false,sc none 0 0] 42))):=(Below.refl _ _).alloc (Nat.le_refl _) _;have s:Hid (Bw w (w.alloc (.cells (zF (xH d)).toArray 42))):=(Below.refl _ _).alloc (Nat.le_refl _) _;have S:Hid (wI (w.alloc (.cells (zF (xH d)).toArray 42)) w.heap.size (xH d)):=heap_alloc_new w _;have am:=E.on av.o;have J:=E.on s.o;have T:=hid E;have aq:=E.few;obtain ⟨p,ah,rfl⟩:=zC.own_shape E.row;have c0:=am.cell;have cL:=J.cell;have zL:=J.free;have bb:=zJf E.ok;have ay:(xH d).stamp=(yG (d.map Vx.ver)).stamp:=by rw [<-sR];rfl
 have ba:(xH d).live=(yG (d.map Vx.ver)).live:=by rw [<-sR];rfl
 have ak:(xH d).num=(yG (d.map Vx.ver)).num:=by rw [<-sR];rfl
 have au:0<=(xH d).num:=by have:=zEx E.ok;rw [ak];omega
 have z:=hid (zJS am)
 have H:Hid ((xH d).stamp<a∨uD (d.map Vx.ver) a true m=8):=by
  rcases Int.lt_or_le (xH d).stamp a with h|h
  ·grind
  grind [zNM]
 have ap:(xH d).num<2400000000000:=by rw [ak];exact an
 have B:Hid ((xH d).stamp<a->uD (d.map Vx.ver) a true m=if yU m=false then 3 else 0):=fun h=>by grind [zPz]
 have F:Hid (∀(W l:World) (b c:Nat) (j:Option Addr) (i:Nat) (o:List Fx),(uD (d.map Vx.ver) a true m=0/\yU m=true)->Bw w W->zW w.heap.size W (sc j o.length i) o->o.map Fx.fld=m->KV.Own n0 l (sc (some (aa b 0)) (d.length+1) c) (d++[⟨(xH d).num+1,a,tick,true,j,i,o⟩])->W.grownBy l (Value.slice p d.length ah).ownBlock->((Value.slice p d.length ah).ownBlock=some b∨w.heap.size<=b)->_):=fun W l b c j i o hc hb hj hm ho hg bd=>zJg (W:=W) (w4:=l) E (tick:=tick) h0 hc.1 an hb (pu:=j) (cu:=i) (o:=o) hj (by grind) hm ho hg bd
 have n:=hid (zJ9 v e _ (hv.kept s.o) hf)
 have C:Hid (yU m=true->∀W,Bw w W->CC 215 #[v] W fun r w'=>∃u o,r=.returned u/\zW W.heap.size w' u o/\o.map Fx.fld=m/\Bw W w'):=fun hm W hW=>by
  have:=dU v e W (hv.kept hW) hf (xF (by grind)).2
  grind
 rw [ar] at n;clear am E ay ba ak bb an ar hf;obtain ⟨vp,vc,rfl,_⟩:=hv;obtain ⟨L,hL⟩:=eE (xH d);rw [hL] at s z H B F n au ap cL zL S;clear hL;obtain ⟨xn,xs,xt,xl,xp,xc,xo⟩:=L;simp only [zF,Vx.sl] at s z H B F n au ap cL zL S
 by_cases hs:xs<a
 ·have hs':¬ a<=xs:=by omega
  cases hmay:yU m with
  | false =>
   have U:=hid (B.o hs);rw [if_pos hmay] at U;rw [hmay] at n
   rcases z.o with ⟨rfl,hz⟩|⟨b1,k,q,rfl,y0,y1,y2,y3,y4⟩
   ·cases hz;have e0:([]:List Vx).length=0:=rfl;clear H B z J F C hmay;go_enter Tryz.func167,Tryz.ntmps167;go_wp2_with fail;refine n.o.mono ?_;rintro r t ⟨rfl,x⟩;have al:=hid (zA s.o s.o.size x.below);clear x n;go_wp2_with fail
    go_ret2
    have:=kY (tick:=tick) T.o U.o (by decide) al.o
    simp_all
   rw [q] at c0;simp only [Vx.sl] at y4;clear H B z J F C hmay;go_enter Tryz.func167,Tryz.ntmps167;go_wp2_with fail;refine n.o.mono ?_;rintro r t ⟨rfl,x⟩;have al:=hid (zA s.o s.o.size x.below);clear x n;go_wp2_with fail
   go_ret2
   have:=kY (tick:=tick) T.o U.o (by decide) al.o
   simp_all
  | true =>
  have U:Hid (uD (d.map Vx.ver) a true m=0/\yU m=true):=by
   have:=B.o hs;rw [if_neg (by grind)] at this;exact ⟨this,hmay⟩
  have C:=hid (C.o hmay);rw [hmay] at n
  rcases z.o with ⟨hd,hz⟩|⟨b1,k,q,rfl,y0,y1,y2,y3,y4⟩
  ·cases hz;have q:d.length=0:=by rw [hd];rfl
   simp only [Int.zero_add] at F
   rw [q] at c0;clear H B z J hmay hd;go_enter Tryz.func167,Tryz.ntmps167;go_wp2_with fail;refine n.o.mono ?_;rintro r t ⟨rfl,x⟩;have K:=x.below;have D:=zA s.o s.o.size K;obtain ⟨l0,l1,l2,l3,l4⟩:=(S.o.on K).cells;simp only [Nat.zero_add] at l1 l2 l3 l4;obtain ⟨M,hM⟩:=eE t.heap.size;have ae:w.heap.size<=M:=by have:=D.size;omega
   have O:Hid (Bw w (t.alloc (.cells #[ii 1,iu a,ii tick,.bool true,sc none 0 0] 42))):=D.alloc D.size _;have V:=hid (C.o _ O.o)
   have ad:Hid (wI (t.alloc (.cells #[ii 1,iu a,ii tick,.bool true,sc none 0 0] 42)) M ⟨1,a,tick,true,none,0,[]⟩):=by
    rw [<-hM];exact heap_alloc_new t _
   have be:(t.alloc (.cells #[ii 1,iu a,ii tick,.bool true,sc none 0 0] 42)).heap.size=M+1:=by simp [hM]
   clear x K D n C;go_wp2_with fail;refine V.o.mono ?_;rintro r l ⟨u,o,rfl,Q,ag,N⟩;obtain ⟨j,i,rfl⟩:=yV Q;have G:=ad.o.on N;obtain ⟨m0,m1,m2,m3,m4'⟩:=G.cells;have m4:l.cell? (aa M 4)=some (sc none 0 0):=by simpa [Vx.sl] using m4'
   simp only [Nat.zero_add] at m1 m2 m3;have f4:=G.free 4;obtain ⟨y,A⟩:=eE (l.setCell (aa M 4) (sc j o.length i));obtain ⟨S5,hS5⟩:=eE y.heap.size;have Z:Bw w l:=zA O.o O.o.size N;have ab:Bw w y:=by rw [<-A];exact Z.setCell ae _
   have ac:wI y M ⟨1,a,tick,true,j,i,o⟩:=by
    rw [<-A];exact heap_setCell_same l M 4 _ _ _ G
   have af:zW (M+1) l (sc j o.length i) o:=zJ Q (by omega)
   have ai:Hid (zW w.heap.size y (sc j o.length i) o):=by
    rw [<-A];exact zJ (zO af (by omega) _) (by omega)
   have aj:=hid ag;have f:=hid (zFJ T.o ab ac ae hS5);obtain ⟨q0,q1,q2,q3,X⟩:=f.o.new;have q4:y.cell? (aa M (0+4))=some (sc j o.length i):=X;have c5:=f.o.cell;have z5:=f.o.free;have a5:=f.o.next;have aw:=f.o.ne;rw [q] at c5 a5;clear ac ab X G Q af ag N Z ad V m4' l0 l1 l2 l3 l4;go_upto_region 16 with fail
   try rw [A];clear A m0 m1 m2 m3 m4 f4
   go_region_law (first
    | (refine zAj _ (by rfl) (.tmp 64) (.tmp 66) (by rfl) n0 (sc p (0) ah) d (by rfl) (by rw [<-q];exact f.o.own _) _ ⟨1,a,tick,true,j,i,o⟩ (by rfl) (by exact f.o.lies) aq (f.o.big _) ?_;intro b6 ao w6 Y I P;rw [<-q] at I P;obtain ⟨bc,az,ax⟩:=f.o.then_ _ _ I))
   all_goals
    have R:=hid (F.o _ w6 b6 ao j i o U.o (f.o.bel _) (ai.o.on (zG ((Below.refl _ _).alloc (Nat.le_refl _) _) 1)) aj.o Y I (P.imp id (f.o.high _ _)));rw [q] at R;clear Y I P;go_wp2_with fail
    go_ret2
    exact ⟨congrArg Ending.returned R.o.1,R.o.2⟩
  rw [q] at c0;simp only [Vx.sl] at y4
  clear H B z J hmay;go_enter Tryz.func167,Tryz.ntmps167;go_wp2_with fail;refine n.o.mono ?_;rintro r t ⟨rfl,x⟩;have K:=x.below;have D:=zA s.o s.o.size K;obtain ⟨l0,l1,l2,l3,l4⟩:=(S.o.on K).cells;simp only [Nat.zero_add] at l1 l2 l3 l4;obtain ⟨M,hM⟩:=eE t.heap.size;have ae:w.heap.size<=M:=by have:=D.size;omega
  have O:Hid (Bw w (t.alloc (.cells #[ii (xn+1),iu a,ii tick,.bool true,sc none 0 0] 42))):=D.alloc D.size _;have V:=hid (C.o _ O.o)
  have ad:Hid (wI (t.alloc (.cells #[ii (xn+1),iu a,ii tick,.bool true,sc none 0 0] 42)) M ⟨xn+1,a,tick,true,none,0,[]⟩):=by
   rw [<-hM];exact heap_alloc_new t _
  have be:(t.alloc (.cells #[ii (xn+1),iu a,ii tick,.bool true,sc none 0 0] 42)).heap.size=M+1:=by simp [hM]
  clear x K D n C;go_wp2_with fail;refine V.o.mono ?_;rintro r l ⟨u,o,rfl,Q,ag,N⟩;obtain ⟨j,i,rfl⟩:=yV Q;have G:=ad.o.on N;obtain ⟨m0,m1,m2,m3,m4'⟩:=G.cells;have m4:l.cell? (aa M 4)=some (sc none 0 0):=by simpa [Vx.sl] using m4'
  simp only [Nat.zero_add] at m1 m2 m3;have f4:=G.free 4;obtain ⟨y,A⟩:=eE (l.setCell (aa M 4) (sc j o.length i));obtain ⟨S5,hS5⟩:=eE y.heap.size;have Z:Bw w l:=zA O.o O.o.size N;have ab:Bw w y:=by rw [<-A];exact Z.setCell ae _
  have ac:wI y M ⟨xn+1,a,tick,true,j,i,o⟩:=by
   rw [<-A];exact heap_setCell_same l M 4 _ _ _ G
  have af:zW (M+1) l (sc j o.length i) o:=zJ Q (by omega)
  have ai:Hid (zW w.heap.size y (sc j o.length i) o):=by
   rw [<-A];exact zJ (zO af (by omega) _) (by omega)
  have aj:=hid ag;have f:=hid (zFJ T.o ab ac ae hS5);obtain ⟨q0,q1,q2,q3,X⟩:=f.o.new;have q4:y.cell? (aa M (0+4))=some (sc j o.length i):=X;have c5:=f.o.cell;have z5:=f.o.free;have a5:=f.o.next;have aw:=f.o.ne;rw [q] at c5 a5;clear ac ab X G Q af ag N Z ad V m4' l0 l1 l2 l3 l4;go_upto_region 16 with fail
  try rw [A];clear A m0 m1 m2 m3 m4 f4
  go_region_law (first
   | (refine zAj _ (by rfl) (.tmp 64) (.tmp 66) (by rfl) n0 (sc (some (aa b1 0)) (k+1) ah) d (by rfl) (by rw [<-q];exact f.o.own _) _ ⟨xn+1,a,tick,true,j,i,o⟩ (by rfl) (by exact f.o.lies) aq (f.o.big _) ?_;intro b6 ao w6 Y I P;rw [<-q] at I P;obtain ⟨bc,az,ax⟩:=f.o.then_ _ _ I))
  all_goals
   have R:=hid (F.o _ w6 b6 ao j i o U.o (f.o.bel _) (ai.o.on (zG ((Below.refl _ _).alloc (Nat.le_refl _) _) 1)) aj.o Y I (P.imp id (f.o.high _ _)));rw [q] at R;clear Y I P;go_wp2_with fail
   go_ret2
   exact ⟨congrArg Ending.returned R.o.1,R.o.2⟩
 have hs':a<=xs:=by omega
 have H8:Hid (uD (d.map Vx.ver) a true m=8):=by
  rcases H.o with h|h
  ·omega
  exact h
 rcases z.o with ⟨rfl,hz⟩|⟨b1,k,q,rfl,y0,y1,y2,y3,y4⟩
 ·cases hz;have e0:([]:List Vx).length=0:=rfl;clear H B z J F S n C;go_enter Tryz.func167,Tryz.ntmps167;go_wp2_with fail
  go_ret2
  have:=kY (tick:=tick) T.o H8.o (by decide) s.o;exact ⟨congrArg Ending.returned this.1,this.2⟩
 rw [q] at c0;simp only [Vx.sl] at y4;clear H B z J F S n C;go_enter Tryz.func167,Tryz.ntmps167;go_wp2_with fail
 go_ret2
 have:=kY (tick:=tick) T.o H8.o (by decide) s.o
 simp_all
theorem zJr (f:vB n0 w g d vs) (a tick:Int) (c:Bool) (v:Value) (e:List Fx) (b:List Fld) (j:wJ w v e) (l:xB e) (k:e.map Fx.fld=b) (h:0<=a) (i:(yG (d.map Vx.ver)).num<2400000000000) :
  Calls Tryz.prog 167 #[.pointer (some ⟨g,0,none⟩),.int .u64 a,.int .i64 tick,.bool c,v] w fun r m =>
   r=.returned (.tuple #[.int .i64 (zAy (d.map Vx.ver) a c b),.int .i64 (uD (d.map Vx.ver) a c b)])/\qO n0 w g d vs (zA1 (d.map Vx.ver) a tick c b) m:=by
 cases c
 ·exact zMR f a tick v b h i
 exact zMW f a tick v e b j l k h i
end
end
section
open Go.RowKit
section
variable {l:List Vr} {t:Int} {v:Vr}
structure zRp (N:Nat) (u:Value) (o:List Vx) (l:List Vr) (W:World):Prop where
 own:KV.Own N W u o
 each:∀x∈o,zW N W x.sl x.o
 apart:zEn o
 ver:o.map Vx.ver=l
theorem zRB (h:atV l t=some v):v∈l:=by grind [atV]
theorem zAf (h:v∈vE l t):v∈l:=List.mem_of_mem_drop h
end
end
section
open Go.RowKit
theorem qF (w:World):Calls Tryz.prog 159 #[.pointer none] w fun e a=>e=.returned (.slice none 0 0)/\a=w:=by
 go_enter Tryz.func159,Tryz.ntmps159
 go_wp2_with fail
 go_ret;exact ⟨rfl,rfl⟩
theorem zCU (t:Int) (w:World):Calls Tryz.prog 172 #[.slice none 0 0,.int .u64 t] w fun e a=>e=.returned (.int .i64 0)/\Below w.heap.size w a :=
 nF (sc none 0 0) [] t w (KV.is_nil w) List.Pairwise.nil (Nat.zero_le _)
theorem zJq (a:Int) (w:World):Calls Tryz.prog 171 #[.slice none 0 0,.int .i64 a] w fun e b=>vZ w none e b:=by
 have:=cN (sc none 0 0) [] a w (KV.is_nil w) (fun x c=>by simp at c) (Nat.zero_le _)
 grind [jP]
theorem zIg (w:World):Calls Tryz.prog 245 #[.slice none 0 0] w fun e a=>vT w [] e a :=
 zBY (sc none 0 0) [] w (KV.is_nil w) (fun x b=>by simp at b) (Nat.zero_le _)
theorem zQz (w:World):Calls Tryz.prog 107 #[.pointer none] w fun e a=>e=.returned (.int .i64 0)/\a=w:=by
 have b:=hid (qF w);go_enter Tryz.func107,Tryz.ntmps107;go_wp2_with fail;refine b.o.mono ?_;rintro e c ⟨rfl,rfl⟩;go_wp2_with fail;go_ret;exact ⟨rfl,rfl⟩
theorem zMM (t:Int) (w:World):Calls Tryz.prog 196 #[.pointer none,.int .u64 t] w fun e g=>vT w [] e g:=by
 have k:=hid (qF w);have i:=hid (zCU t w);go_enter Tryz.func196,Tryz.ntmps196;go_wp2_with fail;refine k.o.mono ?_;rintro e f ⟨rfl,rfl⟩;go_wp2_with fail;refine i.o.mono ?_;rintro e w2 ⟨rfl,hb2⟩;have h:=hid (zIg w2);have b:=hid hb2;go_wp2_with fail;refine h.o.mono ?_;rintro e w3 ⟨u,o,rfl,h1,h2,h3,h4,h5⟩;have a:=b.o.size;have d:vT f [] (.returned u) w3:=⟨u,o,rfl,zC.own_weak h1 a,fun x l=>zJ (h2 x l) a,h3,h4,zA b.o a h5⟩;obtain ⟨p,c,rfl⟩:=zC.own_shape h1;have j:=hid d;go_wp2_with fail;go_ret;exact j.o
theorem zRT (t:Int) (w:World):Calls Tryz.prog 118 #[.pointer none,.int .u64 t] w fun e l=>vZ w none e l:=by
 have f:Hid (Below w.heap.size w (w.alloc (.cells #[ii 0,iu 0,ii 0,.bool false,sc none 0 0] 42))):=(Below.refl _ _).alloc (Nat.le_refl _) _;have d:=hid (tY w);obtain ⟨b,c⟩:∃b,w.alloc (.cells #[ii 0,iu 0,ii 0,.bool false,sc none 0 0] 42)=b:=⟨_,rfl⟩;rw [c] at f d;have i:=hid (qF b);have m:=hid (zCU t b);obtain ⟨N,hN⟩:∃N,w.heap.size=N:=⟨_,rfl⟩;rw [hN] at d f;have u:N+1<=b.heap.size:=by rw [<-c,<-hN];simp
 go_enter Tryz.func118,Tryz.ntmps118
 go_wp2_with fail
 (try rw [c]);refine i.out.mono ?_;rintro e z ⟨rfl,rfl⟩;go_wp2_with fail;refine m.out.mono ?_;rintro e w2 ⟨rfl,hb2⟩;have n:=hid (zJq (-1) w2);have g:=hid hb2;have q:=hb2.size;go_wp2_with fail;refine n.out.mono ?_;rintro e w3 ⟨x,rfl,hx,hJ,hq3⟩;have j:=hid hx;have h:=hid (zJ hJ (M:=N+1) (by omega));have a:=(d.out.on g.out).on hq3;obtain ⟨q0,q1,q2,q3,q4⟩:=a.cells;have o:=a.free 0;have y:=a.free 1;have r:=a.free 2;have s:=a.free 3;have p:=a.free 4;have k:Hid (Below N w w3):=zA (zA f.out (by omega) g.out) (by omega) hq3;obtain ⟨xn,xs,xt,xl,xp,xc,xo⟩:=x;simp only [zF,Vx.sl] at h ⊢
 try simp only [hN]
 go_wp2_with fail
 exact bodyPost_ret (v:=.tuple #[.agg #[ii xn,iu xs,ii xt,.bool xl,sc xp xo.length xc],.bool false]) (by simp [results,Tryz.results118,go_sem,q0,q1,q2,q3,q4]) rfl
  ⟨⟨xn,xs,xt,xl,xp,xc,xo⟩,rfl,j.out,by
   rw [hN];refine zJ (N:=N+1) ?_ (by omega);exact zO (zO (zO (zO (zO h.out (by omega) _) (by omega) _) (by omega) _) (by omega) _) (by omega) _,by
   rw [hN];exact ((((k.out.setCell (Nat.le_refl _) _).setCell (Nat.le_refl _) _).setCell (Nat.le_refl _) _).setCell (Nat.le_refl _) _).setCell (Nat.le_refl _) _⟩
theorem zPh (w:World):Calls Tryz.prog 201 #[.pointer none] w fun e k=>vZ w none e k:=by
 have f:Hid (Below w.heap.size w (w.alloc (.cells #[ii 0,iu 0,ii 0,.bool false,sc none 0 0] 42))):=(Below.refl _ _).alloc (Nat.le_refl _) _;have d:=hid (tY w);obtain ⟨b,c⟩:∃b,w.alloc (.cells #[ii 0,iu 0,ii 0,.bool false,sc none 0 0] 42)=b:=⟨_,rfl⟩;rw [c] at f d;have h:=hid (qF b);have l:=hid (zJq (-1) b);obtain ⟨N,hN⟩:∃N,w.heap.size=N:=⟨_,rfl⟩;rw [hN] at d f;have q:N+1<=b.heap.size:=by rw [<-c,<-hN];simp
 go_enter Tryz.func201,Tryz.ntmps201
 go_wp2_with fail
 (try rw [c]);refine h.out.mono ?_;rintro e s ⟨rfl,rfl⟩;go_wp2_with fail;refine l.out.mono ?_;rintro e w3 ⟨x,rfl,hx,hJ,hq3⟩;have i:=hid hx;have g:=hid (zJ hJ (M:=N+1) (by omega));have a:=d.out.on hq3;obtain ⟨q0,q1,q2,q3,q4⟩:=a.cells;have m:=a.free 0;have r:=a.free 1;have o:=a.free 2;have p:=a.free 3;have n:=a.free 4;have j:Hid (Below N w w3):=zA f.out (by omega) hq3;obtain ⟨xn,xs,xt,xl,xp,xc,xo⟩:=x;simp only [zF,Vx.sl] at g ⊢
 try simp only [hN]
 go_wp2_with fail
 exact bodyPost_ret (v:=.tuple #[.agg #[ii xn,iu xs,ii xt,.bool xl,sc xp xo.length xc],.bool false]) (by simp [results,Tryz.results201,go_sem,q0,q1,q2,q3,q4]) rfl
  ⟨⟨xn,xs,xt,xl,xp,xc,xo⟩,rfl,i.out,by
   rw [hN];refine zJ (N:=N+1) ?_ (by omega);exact zO (zO (zO (zO (zO g.out (by omega) _) (by omega) _) (by omega) _) (by omega) _) (by omega) _,by
   rw [hN];exact ((((j.out.setCell (Nat.le_refl _) _).setCell (Nat.le_refl _) _).setCell (Nat.le_refl _) _).setCell (Nat.le_refl _) _).setCell (Nat.le_refl _) _⟩
theorem zLP (n:Int) (w:World):Calls Tryz.prog 200 #[.pointer none,.int .i64 n] w fun e b=>vZ w none e b:=by
 have a:Hid (Bw w (w.alloc (.cells #[ii 0,iu 0,ii 0,.bool false,sc none 0 0] 42))):=(Below.refl _ _).alloc (Nat.le_refl _) _;have c:=hid (qF (w.alloc (.cells #[ii 0,iu 0,ii 0,.bool false,sc none 0 0] 42)));go_enter Tryz.func200,Tryz.ntmps200;go_wp2_with fail;refine c.o.mono ?_;rintro e d ⟨rfl,rfl⟩;go_wp2_with fail
 exact bodyPost_ret (v:=.tuple #[.agg #[ii 0,iu 0,ii 0,.bool false,sc none 0 0],.bool false]) (by simp [results,Tryz.results200,go_sem]) rfl
  ⟨zY,rfl,rfl,vH _ _,by
   first
   | exact (Below.refl _ _).alloc (Nat.le_refl _) _
   | exact (((((a.o.setCell (Nat.le_refl _) _).setCell (Nat.le_refl _) _).setCell (Nat.le_refl _) _).setCell (Nat.le_refl _) _).setCell (Nat.le_refl _) _)⟩
end
section
open Go.RowKit
structure Cm where
 g:Nat
 d:List Vx
 vs:Value
def Cm.blk (c:Cm) (b:Nat):Prop:=zB2 c.g c.d c.vs b
def fOf (G:Ky->Cm) (D:List zQ) (k:Ky):Option Nat:=if (ofD D k).isEmpty then none else some (G k).g
theorem pE {G:Ky->Cm} {D:List zQ} {k:Ky} (h:ofD D k=[]):fOf G D k=none:=by simp_all [fOf]
theorem uL {G:Ky->Cm} {D:List zQ} {k:Ky} (h:ofD D k≠[]):fOf G D k=some (G k).g:=by grind [fOf]
structure xE (n0:Nat) (W:World) (g m n:Nat) (G:Ky->Cm) (D:List zQ):Prop where
 cell:W.cell? ⟨g,0,none⟩=some (.map (some m))
 bg:n0<=g
 bm:n0<=m
 map:tL W m n (fOf G D)
 prg:∀k,ofD D k≠[]->vB n0 W (G k).g (G k).d (G k).vs/\(G k).d.map Vx.ver=ofD D k
 apart:∀k1 k2,ofD D k1≠[]->ofD D k2≠[]->k1≠k2->∀b,(G k1).blk b->¬ (G k2).blk b
 off:∀k,ofD D k≠[]->∀b,(G k).blk b->b≠g/\b≠m
 ok:OkD D
 key:∀k,ofD D k≠[]->xI k.1 k.2=true
 num:∀k,(yG (ofD D k)).num<=n
 few:zT D<=n
def nT (g m:Nat) (G:Ky->Cm) (D:List zQ) (b:Nat):Prop:=b=g∨b=m∨∃k,ofD D k≠[]/\(G k).blk b
theorem xE.ne {n0:Nat} {W:World} {g m n:Nat} {G:Ky->Cm} {D:List zQ} (h:xE n0 W g m n G D):g≠m:=h.map.off h.cell
theorem xE.blk {n0:Nat} {W:World} {g m n:Nat} {G:Ky->Cm} {D:List zQ} (h:xE n0 W g m n G D) (b:Nat) (a:nT g m G D b):n0<=b/\b<W.heap.size:=by
 rcases a with rfl|rfl|⟨k,c,a⟩
 ·exact ⟨h.bg,zH h.cell⟩
 ·exact ⟨h.bm,h.map.lt⟩
 exact (h.prg k c).1.blk b a
theorem xE.fr {P:Nat->Prop} {n0:Nat} {W d:World} {g m n:Nat} {G:Ky->Cm} {D:List zQ} (h:xE n0 W g m n G D) (f:Fr P W d) (c:∀b,nT g m G D b->¬ P b):xE n0 d g m n G D :=
 ⟨f.cell h.cell (c g (Or.inl rfl)),h.bg,h.bm,h.map.on (f.block m h.map.lt (c m (Or.inr (Or.inl rfl)))),fun k a=>⟨(h.prg k a).1.fr f fun b e=>c b (Or.inr (Or.inr ⟨k,a,e⟩)),(h.prg k a).2⟩,h.apart,h.off,h.ok,h.key,h.num,h.few⟩
theorem xE.on {n0:Nat} {W a:World} {g m n:Nat} {G:Ky->Cm} {D:List zQ} (h:xE n0 W g m n G D) (c:Below W.heap.size W a):xE n0 a g m n G D :=
 h.fr (P:=fun _=>False) (Fr.of_below c) fun _ _ b=>b
theorem xE.mono {n0:Nat} {W:World} {g m n b:Nat} {G:Ky->Cm} {D:List zQ} (h:xE n0 W g m n G D) (a:n<=b):xE n0 W g m b G D :=
 ⟨h.cell,h.bg,h.bm,h.map.mono a,h.prg,h.apart,h.off,h.ok,h.key,fun k=>by have:=h.num k;omega,Nat.le_trans h.few a⟩
theorem zK6 {k:Ky} (h:xI k.1 k.2=true):k.1.size<=32/\k.2.size<=32:=by
 unfold xI at h;rw [Bool.and_eq_true] at h;have a:=zDq h.1;have b:=zDi h.2
 simp_all
theorem key_fit {k:Ky} (h:xI k.1 k.2=true):yM k:=by grind [yM,maxLen,zK6]
theorem zE4 (g m:Nat) (W:World) (b:W.cell? ⟨g,0,none⟩=some (.map (some m))) :
  Calls Tryz.prog 106 #[.pointer (some ⟨g,0,none⟩)] W fun e a=>e=.returned (.map (some m))/\a=W:=by
 go_enter Tryz.func106,Tryz.ntmps106
 go_wp2_with fail
 go_ret;exact ⟨rfl,rfl⟩
theorem zRh {W:World} {g m n:Nat} {f:Ky->Option Nat} (i:W.cell? ⟨g,0,none⟩=some (.map (some m))) (c:tL W m n f) (k:Ky) (A:yM k) :
  Calls Tryz.prog 117 #[.pointer (some ⟨g,0,none⟩),.agg #[.string k.1,.string k.2]] W fun e a=>e=.returned (mkP (f k))/\Below W.heap.size W a:=by
 obtain ⟨V,d⟩:=eE (W.alloc (.cells #[tq k.1,tq k.2] 36));obtain ⟨F,hF⟩:=eE W.z;have b:Bw W V:=by rw [<-d];exact (Below.refl _ _).alloc (Nat.le_refl _) _
 have s:V.heap[F]? = some (oc #[tq k.1,tq k.2] 36):=by rw [<-d,<-hF];exact heap_alloc_new W _
 have t:F<V.z:=(gA s).1;have j:g<W.z:=zH i
 have q:Hid (∀a:World,Below V.drew.z V.drew a->a.cell? (aa g 0)=some (.map (some m))/\a.cell? (aa F 0)=some (tq k.1)/\a.cell? (aa F 1)=some (tq k.2)/\(Instr.lookup 141 (.map (some m)) (.agg #[tq k.1,tq k.2]) false).run Tryz.prog a=.ok (mkP (f k)) a):=fun a h=>by
  have u:a.heap[g]? = W.heap[g]?:=(h.block g (Nat.lt_of_lt_of_le j b.size)).trans (b.block g j);have w:a.heap[m]? = W.heap[m]?:=(h.block m (Nat.lt_of_lt_of_le c.lt b.size)).trans (b.block m c.lt);have r:a.heap[F]? = some (oc #[tq k.1,tq k.2] 36):=(h.block F t).trans s;refine ⟨(World.cell?_of_block u).trans i,by rw [Lib.cell_of_heap r];rfl,by rw [Lib.cell_of_heap r];rfl,zA3 (c.on w) A⟩
 have v:Hid (∀a:World,a.cell? (aa g 0)=some (.map (some m))->CC 106 #[jp g] a fun e y=>e=.returned (.map (some m))/\y=a):=fun a h=>zE4 g m a h
 obtain ⟨p,B⟩:∃p,mkP (f k)=Value.pointer p:=⟨_,rfl⟩;rw [B] at q ⊢;have l:=q.out V.drew (Below.refl _ _);have x:=hid b;obtain ⟨ka,kb⟩:=k;simp only at *;go_enter Tryz.func117,Tryz.ntmps117;go_wp2_with fail
 go_region_held3 (fun a=>a.cell? (aa g 0)=some (.map (some m))/\a.cell? (aa F 0)=some (tq ka)/\a.cell? (aa F 1)=some (tq kb)/\(Instr.lookup 141 (.map (some m)) (.agg #[tq ka,tq kb]) false).run Tryz.prog a=.ok (.pointer p) a)
  (first|exact l)
  (first|(go_at_call 106;refine (v.o _ l.1).mono ?_;rintro e C ⟨rfl,rfl⟩))
 all_goals
  go_wp2_with fail
  go_ret;rw [<-hF];exact ⟨rfl,x.o.drew⟩
end
section
open Go.RowKit
section
variable {n0 g m n:Nat} {W:World} {G:Ky→Cm} {D:List zQ}
section
variable {n0:Nat} {W:World} {g m n:Nat} {G:Ky→Cm} {D:List zQ}
theorem zNS (h:xE n0 W g m n G D) (k:Ky) (t:Int):Calls Tryz.prog 118 #[mkP (fOf G D k),.int .u64 t] W fun e a=>vZ W (atV (ofD D k) t) e a:=by
 by_cases e:ofD D k=[]
 ·rw [pE e,e];exact zRT t W
 rw [uL e,<-(h.prg k e).2];exact zQW (h.prg k e).1 t
theorem zAH (h:xE n0 W g m n G D) (k:Ky) (i:Int) (hi:i<=9223372036854775807):Calls Tryz.prog 200 #[mkP (fOf G D k),.int .i64 i] W fun e a=>vZ W (sL (ofD D k) i) e a:=by
 by_cases e:ofD D k=[]
 ·rw [pE e,e];exact zLP i W
 rw [uL e,<-(h.prg k e).2];exact zHb (h.prg k e).1 i hi
theorem zC1 (h:xE n0 W g m n G D) (k:Ky):Calls Tryz.prog 201 #[mkP (fOf G D k)] W fun e a=>vZ W (ofD D k).getLast? e a:=by
 by_cases e:ofD D k=[]
 ·rw [pE e,e];exact zPh W
 rw [uL e,<-(h.prg k e).2];exact zNa (h.prg k e).1
theorem zGN (h:xE n0 W g m n G D) (k:Ky) (t:Int):Calls Tryz.prog 196 #[mkP (fOf G D k),.int .u64 t] W fun e a=>vT W (vE (ofD D k) t) e a:=by
 by_cases e:ofD D k=[]
 ·rw [pE e,e];exact zMM t W
 rw [uL e,<-(h.prg k e).2];exact zK0 (h.prg k e).1 t
theorem zDd (h:xE n0 W g m n G D) (k:Ky):Calls Tryz.prog 107 #[mkP (fOf G D k)] W fun e a=>e=.returned (.int .i64 ((ofD D k).length:Int))/\a=W:=by
 by_cases e:ofD D k=[]
 ·rw [pE e,e];exact zQz W
 rw [uL e,<-(h.prg k e).2,List.length_map];exact zPv (h.prg k e).1
theorem xE.of (h:xE n0 W g m n G D) (k:Ky) (a:yM k):Calls Tryz.prog 117 #[.pointer (some ⟨g,0,none⟩),.agg #[.string k.1,.string k.2]] W fun e b=>e=.returned (mkP (fOf G D k))/\Below W.heap.size W b:=zRh h.cell h.map k a
end
theorem zJT (h:xE n0 W g m n G D) (k:Ky) (B:yM k) (t:Int) :
  Calls Tryz.prog 67 #[.pointer (some ⟨g,0,none⟩),.agg #[.string k.1,.string k.2],.int .u64 t] W fun e c=>vZ W (atV (ofD D k) t) e c:=by
 obtain ⟨N,b⟩:=eE W.heap.size;obtain ⟨W1,hW1⟩:=eE (W.alloc (.cells #[tq k.1,tq k.2] 36));have q:W1.heap.size=N+1:=by rw [<-hW1,<-b];simp
 have K:Below N W W1:=by rw [<-hW1,<-b];exact (Below.refl _ _).alloc (Nat.le_refl _) _
 have J:W1.heap[N]? = some (oc #[tq k.1,tq k.2] 36):=by rw [<-hW1,<-b];exact heap_alloc_new W _
 have w:=hid (tY W1);obtain ⟨a,i⟩:=eE (W1.alloc (.cells #[ii 0,iu 0,ii 0,.bool false,sc none 0 0] 42));have j:Below (N+1) W1 a:=by rw [<-i,<-q];exact (Below.refl _ _).alloc (Nat.le_refl _) _
 have Q:a.heap.size=N+2:=by rw [<-i];simp;omega
 have r:a.heap[N]? = some (oc #[tq k.1,tq k.2] 36):=(j.block N (by omega)).trans J;have u:Below N W a:=K.trans (j.mono (by omega));rw [i,q] at w;have z:xE n0 a g m n G D:=h.on (by rw [b];exact u);have l:=hid (z.of k B);have f:Hid (∀c,Bw a c->CC 118 #[mkP (fOf G D k),iu t] c fun e C=>vZ c (atV (ofD D k) t) e C):=fun c I=>zNS (z.on I) k t
 obtain ⟨p,A⟩:∃p,mkP (fOf G D k)=Value.pointer p:=⟨_,rfl⟩;rw [A] at l f;have U:a.cell? (aa N 0)=some (tq k.1):=cz r;have T:a.cell? (aa N 1)=some (tq k.2):=cz r;have E:=hid u;obtain ⟨o,ho⟩:=eE (atV (ofD D k) t);rw [ho] at f ⊢;obtain ⟨ka,kb⟩:=k;simp only at *;go_enter Tryz.func67,Tryz.ntmps67;go_wp2_with fail;refine l.o.mono ?_;rintro e w3 ⟨rfl,hb3⟩;have F:=hid (f.o w3 hb3);have s:=hid hb3;have X:=hb3.size;go_wp2_with fail;refine F.o.mono ?_;rintro e w4 ⟨x,rfl,hx,hJ,hq⟩;have d:=(w.o.on s.o).on hq;obtain ⟨q0,q1,q2,q3,q4⟩:=d.cells;have V:=d.free 0;have R:=d.free 1;have P:=d.free 2;have S:=d.free 3;have O:=d.free 4;have H:=hid hx;have y:=hid (zJ hJ (M:=N+2) (by omega));have L:Hid (Below N W w4):=zA (zA E.o (by omega) s.o) (by omega) hq;obtain ⟨xn,xs,xt,xl,xp,xc,xo⟩:=x;simp only [zF,Vx.sl] at y ⊢;go_wp2_with fail
 exact bodyPost_ret (v:=.tuple #[.agg #[ii xn,iu xs,ii xt,.bool xl,sc xp xo.length xc],.bool o.isSome]) (by simp [results,Tryz.results67,go_sem,q0,q1,q2,q3,q4]) rfl
  ⟨⟨xn,xs,xt,xl,xp,xc,xo⟩,rfl,H.o,by
   rw [b];refine zJ (N:=N+2) ?_ (by omega);exact zO (zO (zO (zO (zO y.o (by omega) _) (by omega) _) (by omega) _) (by omega) _) (by omega) _,by
   rw [b];exact ((((L.o.setCell (by simp) _).setCell (by simp) _).setCell (by simp) _).setCell (by simp) _).setCell (by simp) _⟩
theorem zGF (h:xE n0 W g m n G D) (k:Ky) (B:yM k) (i:Int) (hi:i<=9223372036854775807) :
  Calls Tryz.prog 148 #[.pointer (some ⟨g,0,none⟩),.agg #[.string k.1,.string k.2],.int .i64 i] W fun e c=>vZ W (sL (ofD D k) i) e c:=by
 obtain ⟨N,b⟩:=eE W.heap.size;obtain ⟨W1,hW1⟩:=eE (W.alloc (.cells #[tq k.1,tq k.2] 36));have r:W1.heap.size=N+1:=by rw [<-hW1,<-b];simp
 have K:Below N W W1:=by rw [<-hW1,<-b];exact (Below.refl _ _).alloc (Nat.le_refl _) _
 have J:W1.heap[N]? = some (oc #[tq k.1,tq k.2] 36):=by rw [<-hW1,<-b];exact heap_alloc_new W _
 have w:=hid (tY W1);obtain ⟨a,j⟩:=eE (W1.alloc (.cells #[ii 0,iu 0,ii 0,.bool false,sc none 0 0] 42));have l:Below (N+1) W1 a:=by rw [<-j,<-r];exact (Below.refl _ _).alloc (Nat.le_refl _) _
 have Q:a.heap.size=N+2:=by rw [<-j];simp;omega
 have s:a.heap[N]? = some (oc #[tq k.1,tq k.2] 36):=(l.block N (by omega)).trans J;have u:Below N W a:=K.trans (l.mono (by omega));rw [j,r] at w;have z:xE n0 a g m n G D:=h.on (by rw [b];exact u);have q:=hid (z.of k B);have f:Hid (∀c,Bw a c->CC 200 #[mkP (fOf G D k),ii i] c fun e C=>vZ c (sL (ofD D k) i) e C):=fun c I=>zAH (z.on I) k i hi
 obtain ⟨p,A⟩:∃p,mkP (fOf G D k)=Value.pointer p:=⟨_,rfl⟩;rw [A] at q f;have U:a.cell? (aa N 0)=some (tq k.1):=cz s;have T:a.cell? (aa N 1)=some (tq k.2):=cz s;have E:=hid u;obtain ⟨o,ho⟩:=eE (sL (ofD D k) i);rw [ho] at f ⊢;obtain ⟨ka,kb⟩:=k;simp only at *;go_enter Tryz.func148,Tryz.ntmps148;go_wp2_with fail;refine q.o.mono ?_;rintro e w3 ⟨rfl,hb3⟩;have F:=hid (f.o w3 hb3);have t:=hid hb3;have X:=hb3.size;go_wp2_with fail;refine F.o.mono ?_;rintro e w4 ⟨x,rfl,hx,hJ,hq⟩;have d:=(w.o.on t.o).on hq;obtain ⟨q0,q1,q2,q3,q4⟩:=d.cells;have V:=d.free 0;have R:=d.free 1;have P:=d.free 2;have S:=d.free 3;have O:=d.free 4;have H:=hid hx;have y:=hid (zJ hJ (M:=N+2) (by omega));have L:Hid (Below N W w4):=zA (zA E.o (by omega) t.o) (by omega) hq;obtain ⟨xn,xs,xt,xl,xp,xc,xo⟩:=x;simp only [zF,Vx.sl] at y ⊢;go_wp2_with fail
 exact bodyPost_ret (v:=.tuple #[.agg #[ii xn,iu xs,ii xt,.bool xl,sc xp xo.length xc],.bool o.isSome]) (by simp [results,Tryz.results148,go_sem,q0,q1,q2,q3,q4]) rfl
  ⟨⟨xn,xs,xt,xl,xp,xc,xo⟩,rfl,H.o,by
   rw [b];refine zJ (N:=N+2) ?_ (by omega);exact zO (zO (zO (zO (zO y.o (by omega) _) (by omega) _) (by omega) _) (by omega) _) (by omega) _,by
   rw [b];exact ((((L.o.setCell (by simp) _).setCell (by simp) _).setCell (by simp) _).setCell (by simp) _).setCell (by simp) _⟩
theorem zKi (h:xE n0 W g m n G D) (k:Ky) (A:yM k) :
  Calls Tryz.prog 162 #[.pointer (some ⟨g,0,none⟩),.agg #[.string k.1,.string k.2]] W fun e c=>vZ W ((ofD D k).getLast?) e c:=by
 obtain ⟨N,b⟩:=eE W.heap.size;obtain ⟨W1,hW1⟩:=eE (W.alloc (.cells #[tq k.1,tq k.2] 36));have q:W1.heap.size=N+1:=by rw [<-hW1,<-b];simp
 have J:Below N W W1:=by rw [<-hW1,<-b];exact (Below.refl _ _).alloc (Nat.le_refl _) _
 have I:W1.heap[N]? = some (oc #[tq k.1,tq k.2] 36):=by rw [<-hW1,<-b];exact heap_alloc_new W _
 have u:=hid (tY W1);obtain ⟨a,i⟩:=eE (W1.alloc (.cells #[ii 0,iu 0,ii 0,.bool false,sc none 0 0] 42));have j:Below (N+1) W1 a:=by rw [<-i,<-q];exact (Below.refl _ _).alloc (Nat.le_refl _) _
 have P:a.heap.size=N+2:=by rw [<-i];simp;omega
 have r:a.heap[N]? = some (oc #[tq k.1,tq k.2] 36):=(j.block N (by omega)).trans I;have t:Below N W a:=J.trans (j.mono (by omega));rw [i,q] at u;have y:xE n0 a g m n G D:=h.on (by rw [b];exact t);have l:=hid (y.of k A);have f:Hid (∀c,Bw a c->CC 201 #[mkP (fOf G D k)] c fun e B=>vZ c ((ofD D k).getLast?) e B):=fun c H=>zC1 (y.on H) k
 obtain ⟨p,z⟩:∃p,mkP (fOf G D k)=Value.pointer p:=⟨_,rfl⟩;rw [z] at l f;have T:a.cell? (aa N 0)=some (tq k.1):=cz r;have S:a.cell? (aa N 1)=some (tq k.2):=cz r;have C:=hid t;obtain ⟨o,ho⟩:=eE ((ofD D k).getLast?);rw [ho] at f ⊢;obtain ⟨ka,kb⟩:=k;simp only at *;go_enter Tryz.func162,Tryz.ntmps162;go_wp2_with fail;refine l.o.mono ?_;rintro e w3 ⟨rfl,hb3⟩;have E:=hid (f.o w3 hb3);have s:=hid hb3;have V:=hb3.size;go_wp2_with fail;refine E.o.mono ?_;rintro e w4 ⟨x,rfl,hx,hJ,hq⟩;have d:=(u.o.on s.o).on hq;obtain ⟨q0,q1,q2,q3,q4⟩:=d.cells;have U:=d.free 0;have Q:=d.free 1;have O:=d.free 2;have R:=d.free 3;have L:=d.free 4;have F:=hid hx;have w:=hid (zJ hJ (M:=N+2) (by omega));have K:Hid (Below N W w4):=zA (zA C.o (by omega) s.o) (by omega) hq;obtain ⟨xn,xs,xt,xl,xp,xc,xo⟩:=x;simp only [zF,Vx.sl] at w ⊢;go_wp2_with fail
 exact bodyPost_ret (v:=.tuple #[.agg #[ii xn,iu xs,ii xt,.bool xl,sc xp xo.length xc],.bool o.isSome]) (by simp [results,Tryz.results162,go_sem,q0,q1,q2,q3,q4]) rfl
  ⟨⟨xn,xs,xt,xl,xp,xc,xo⟩,rfl,F.o,by
   rw [b];refine zJ (N:=N+2) ?_ (by omega);exact zO (zO (zO (zO (zO w.o (by omega) _) (by omega) _) (by omega) _) (by omega) _) (by omega) _,by
   rw [b];exact ((((K.o.setCell (by simp) _).setCell (by simp) _).setCell (by simp) _).setCell (by simp) _).setCell (by simp) _⟩
theorem zCE (h:xE n0 W g m n G D) (k:Ky) (w:yM k) (t:Int) :
  Calls Tryz.prog 144 #[.pointer (some ⟨g,0,none⟩),.agg #[.string k.1,.string k.2],.int .u64 t] W fun e a=>vT W (vE (ofD D k) t) e a:=by
 obtain ⟨N,b⟩:=eE W.heap.size;obtain ⟨W1,hW1⟩:=eE (W.alloc (.cells #[tq k.1,tq k.2] 36));have I:W1.heap.size=N+1:=by rw [<-hW1,<-b];simp
 have i:Below N W W1:=by rw [<-hW1,<-b];exact (Below.refl _ _).alloc (Nat.le_refl _) _
 have f:W1.heap[N]? = some (oc #[tq k.1,tq k.2] 36):=by rw [<-hW1,<-b];exact heap_alloc_new W _
 have r:xE n0 W1 g m n G D:=h.on (by rw [b];exact i);have j:=hid (r.of k w);have d:Hid (∀a,Bw W1 a->CC 196 #[mkP (fOf G D k),iu t] a fun e C=>vT a (vE (ofD D k) t) e C):=fun a z=>zGN (r.on z) k t
 obtain ⟨p,v⟩:∃p,mkP (fOf G D k)=Value.pointer p:=⟨_,rfl⟩;rw [v] at j d;have H:W1.cell? (aa N 0)=some (tq k.1):=cz f;have F:W1.cell? (aa N 1)=some (tq k.2):=cz f;have E:=hid i;obtain ⟨l,hl⟩:=eE (vE (ofD D k) t);rw [hl] at d ⊢;obtain ⟨ka,kb⟩:=k;simp only at *;go_enter Tryz.func144,Tryz.ntmps144;go_wp2_with fail;refine j.o.mono ?_;rintro e w3 ⟨rfl,hb3⟩;have y:=hid (d.o w3 hb3);have s:=hid hb3;have J:=hb3.size;go_wp2_with fail;refine y.o.mono ?_;rintro e w4 ⟨u,o,rfl,a1,a2,a3,a4,a5⟩;have A:Hid (vT W l (.returned u) w4):=⟨u,o,rfl,zC.own_weak a1 (by omega),fun x B=>zJ (a2 x B) (by omega),a3,a4,by rw [b];exact zA (zA E.o (by omega) s.o) (by omega) a5⟩;obtain ⟨q,c,rfl⟩:=zC.own_shape a1;go_wp2_with fail;go_ret;exact A.o
end
end
section
open Go.RowKit
section
variable {l:List Vr} {n:Nat}
theorem zKx (h:OkV l):sL l ((l.getLast?.getD zeroV).num-(l.length:Int)+1)=l.head?:=by
 cases l with
 | nil=>rfl
 | cons v r=>grind [kQ,bG]
theorem zHx (h:(yG l).num<=n):(l.getLast?.getD zeroV).num<=n:=h
theorem zMa (h:OkV l):(l.length:Int)<=(l.getLast?.getD zeroV).num:=zEx h
theorem zLu {w:World} {b B:Nat} {v0 v1 v2 v3 v4 u:Value} {o:Nat} (h:w.cell? ⟨B,o,none⟩=some u) (a:B≠b) :
  (((((w.setCell ⟨b,0,none⟩ v0).setCell ⟨b,1,none⟩ v1).setCell ⟨b,2,none⟩ v2).setCell ⟨b,3,none⟩ v3).setCell ⟨b,4,none⟩ v4).cell? ⟨B,o,none⟩=some u:=by
 rw [World.cell?_of_block (show _=w.heap[B]? from ?_)]
 ·exact h
 grind [Below.heap_setCell]
theorem zIQ {n0:Nat} {W:World} {g m:Nat} {G:Ky->Cm} {D:List zQ} (h:xE n0 W g m n G D) (hn:n<=2400000000000) (k:Ky) (hk:yM k) :
  Calls Tryz.prog 149 #[.pointer (some ⟨g,0,none⟩),.agg #[.string k.1,.string k.2]] W fun e a=>vZ W (ofD D k).head? e a:=by
 obtain ⟨N,q⟩:=eE W.heap.size;obtain ⟨W1,hW1⟩:=eE (W.alloc (.cells #[tq k.1,tq k.2] 36));have X:W1.heap.size=N+1:=by rw [<-hW1,<-q];simp
 have ab:Below N W W1:=by rw [<-hW1,<-q];exact (Below.refl _ _).alloc (Nat.le_refl _) _
 have af:W1.heap[N]? = some (oc #[tq k.1,tq k.2] 36):=by rw [<-hW1,<-q];exact heap_alloc_new W _
 have F:=hid (tY W1);obtain ⟨c,J⟩:=eE (W1.alloc (.cells #[ii 0,iu 0,ii 0,.bool false,sc none 0 0] 42));have P:Below (N+1) W1 c:=by rw [<-J,<-X];exact (Below.refl _ _).alloc (Nat.le_refl _) _
 have ap:c.heap.size=N+2:=by rw [<-J];simp;omega
 have E:c.heap[N]? = some (oc #[tq k.1,tq k.2] 36):=(P.block N (by omega)).trans af;have I:Below N W c:=ab.trans (P.mono (by omega));rw [J,X] at F;have u:xE n0 c g m n G D:=h.on (by rw [q];exact I);have O:=hid (u.of k hk);have A:Hid (∀a,Bw c a->CC 201 #[mkP (fOf G D k)] a fun e w=>vZ a (ofD D k).getLast? e w):=fun a i=>zC1 (u.on i) k
 have z:Hid (∀a,Bw c a->CC 107 #[mkP (fOf G D k)] a fun e w=>e=.returned (ii ((ofD D k).length:Int))/\w=a):=fun a i=>zDd (u.on i) k
 have Q:=mX h.ok k;have L:=zMa Q;have Z:=zHx (h.num k);have HF:=hid (zKx Q)
 have s:Hid (∀a,Bw c a->CC 200 #[mkP (fOf G D k),ii (((ofD D k).getLast?.getD zeroV).num-((ofD D k).length:Int)+1)] a fun e w=>vZ a (ofD D k).head? e w):=fun a i=>by
  rw [<-HF.o];exact zAH (u.on i) k _ (by omega)
 obtain ⟨p,U⟩:∃p,mkP (fOf G D k)=Value.pointer p:=⟨_,rfl⟩;rw [U] at O A z s;have c0:c.cell? (aa N 0)=some (tq k.1):=cz E;have c1:c.cell? (aa N 1)=some (tq k.2):=cz E;have HB:=hid I;obtain ⟨o,ho⟩:=eE ((ofD D k).head?);obtain ⟨ol,hol⟩:=eE ((ofD D k).getLast?);obtain ⟨len,hlen⟩:∃len:Nat,(ofD D k).length=len:=⟨_,rfl⟩;rw [ho,hol,hlen] at s;rw [hol] at A L Z;rw [hlen] at z L;rw [ho];obtain ⟨ka,kb⟩:=k;simp only at *;clear af E ab P I u U h hk ho hol hlen HF Q;go_enter Tryz.func149,Tryz.ntmps149;go_wp2_with fail;refine O.o.mono ?_;rintro e w3 ⟨rfl,hb3⟩;have ac:=hid (A.o w3 hb3);have ag:=hid hb3;have aj:=hb3.size;clear hb3 A O c0 c1;go_wp2_with fail;refine ac.o.mono ?_;rintro e w4 ⟨x,rfl,hx,_,hq⟩;have aq:=hq.size;have R:Hid (Bw c w4):=zA ag.o aj hq;obtain ⟨xn,xs,xt,xl,xp,xc,xo⟩:=x;have ad:xn=(ol.getD zeroV).num:=by rw [<-hx];rfl
 rw [<-ad] at s L Z;simp only [zF,Vx.sl];clear hx hq ac ag ad;obtain ⟨d,H⟩:=eE (w4.alloc (.cells #[ii xn,iu xs,ii xt,.bool xl,sc xp xo.length xc] 42));have C:d.heap[w4.heap.size]? = some (oc #[ii xn,iu xs,ii xt,.bool xl,sc xp xo.length xc] 42):=by rw [<-H];exact heap_alloc_new w4 _
 have ae:Bw c d:=by rw [<-H];exact R.o.alloc (by omega) _
 obtain ⟨r,V⟩:=eE w4.heap.size;rw [V] at C;have ao:N+2<=r:=by omega
 have al:r<d.heap.size:=(gA C).1
 have KS:Hid (∀a,Below d.drew.heap.size d.drew a->a.cell? (aa r 0)=some (ii xn)):=fun a i=>by
  rw [Lib.cell_of_heap ((i.block r al).trans C)];rfl
 have q0:=KS.out d.drew (Below.refl _ _);have t:Bw c d.drew:=ae.drew;have ah:=hid (z.o d.drew t);have an:=hid (s.o d.drew t);have ai:=hid (F.o.on t);have ak:Hid (Below N W d.drew):=zA HB.o (by omega) t;clear z s F HB R ae t C;go_wp2_with fail;(try rw [V]);(try rw [H]);refine wp_region_held_drew (S:=fun a=>a.cell? (aa r 0)=some (ii xn)) (by kernel_rfl) q0 (fun hHeld=>?_);refine tkv 0 (.pointer p) hHeld ?_;simp only [Act.put,sz];refine tkv 1 (jp r) hHeld ?_;simp only [Act.put,sz];refine tkv 2 (ii xn) hHeld ?_;simp only [Act.put,sz];refine tkv 3 (.pointer p) hHeld ?_;simp only [Act.put,sz];refine wpAnyH_ready (rs:=[4]) (by kernel_rfl) (by simp) ?_;refine AllReadyH.cons (zB rfl) (fun K f=>?_) AllReadyH.nil;rw [if_pos (by rfl)]
 go_simp
 refine ah.o.mono ?_;rintro e w5 ⟨rfl,rfl⟩;go_wp2_with fail;refine f.out _ _ q0 (fun hHeld=>?_);clear f K
 try simp only [Act.put,sz]
 have e1:IntKind.i64.wrap (xn-(len:Int))=xn-len:=by rw [IntKind.wrap_i64];omega
 have e2:IntKind.i64.wrap (xn-(len:Int)+1)=xn-len+1:=by rw [IntKind.wrap_i64];omega
 refine tkv 5 (ii (xn-len)) hHeld ?_;simp only [Act.put,sz];refine tkv 6 (ii (xn-len+1)) hHeld ?_;simp only [Act.put,sz];clear e1 e2;refine wpAnyH_ready (rs:=[7]) (by kernel_rfl) (by simp) ?_;refine AllReadyH.cons (zB rfl) (fun K f=>?_) AllReadyH.nil;rw [if_pos (by rfl)]
 go_simp
 refine an.o.mono ?_;rintro e w6 ⟨y,rfl,Y,T,B⟩;have q6:=KS.out w6 B;have j:=ai.o.on B;obtain ⟨z0,z1,z2,z3,z4⟩:=j.cells;have r0:=j.free 0;have r1:=j.free 1;have r2:=j.free 2;have r3:=j.free 3;have r4:=j.free 4;have HY:=hid Y;have HJ:=hid (zJ T (M:=N+2) (by show N+2<=d.heap.size;omega));have am:Hid (Below N W w6):=zA ak.o (by show N<=d.heap.size;omega) B;obtain ⟨yn,ys,yt,yl,yp,yc,yo⟩:=y;simp only [zF,Vx.sl] at HJ ⊢;have q7:=zLu (b:=N+1) (v0:=ii yn) (v1:=iu ys) (v2:=ii yt) (v3:=.bool yl) (v4:=sc yp yo.length yc) q6 (by omega);clear Y T B j;go_wp2_with fail;refine f.out _ _ q6 (fun hHeld=>?_);clear f K
 try simp only [Act.put,sz]
 refine tkv 8 (.agg #[ii yn,iu ys,ii yt,.bool yl,sc yp yo.length yc]) hHeld ?_;simp only [Act.put,sz];refine tkv 9 (.bool o.isSome) hHeld ?_;simp only [Act.put,sz];refine wpAnyH_ready (rs:=[10]) (by kernel_rfl) (by simp) ?_;refine AllReadyH.cons (zB rfl) (fun K f=>?_) AllReadyH.nil;rw [if_pos (by rfl)]
 go_simp
 refine f.out _ _ q7 (fun hHeld=>?_);clear f K
 try simp only [Act.put,sz]
 refine tkv 11 (.bool o.isSome) hHeld ?_;simp only [Act.put,sz];refine wpAnyH_done (by kernel_rfl) ?_ _;go_wp2_with fail
 exact bodyPost_ret (v:=.tuple #[.agg #[ii yn,iu ys,ii yt,.bool yl,sc yp yo.length yc],.bool o.isSome]) (by simp [results,Tryz.results149,go_sem,z0,z1,z2,z3,z4]) rfl
  ⟨⟨yn,ys,yt,yl,yp,yc,yo⟩,rfl,HY.o,by
   rw [q];refine zJ (N:=N+2) ?_ (by omega);exact zO (zO (zO (zO (zO HJ.o (by omega) _) (by omega) _) (by omega) _) (by omega) _) (by omega) _,by
   rw [q];exact ((((am.o.setCell (by simp) _).setCell (by simp) _).setCell (by simp) _).setCell (by simp) _).setCell (by simp) _⟩
end
end
section
open Go.RowKit
section
variable {n0 g m n n':Nat} {G:Ky→Cm} {D:List zQ}
theorem vB.weak {c:Nat} {w:World} {d:List Vx} {e:Value} (h:vB n0 w g d e) (a:c<=n0):vB c w g d e :=
 ⟨h.cell,h.free,Nat.le_trans a h.base,zC.own_weak h.row a,fun x b=>⟨zJ (h.each x b).1 a,(h.each x b).2⟩,h.off,h.ok,h.top⟩
def gY (n0:Nat) (W:World) (g m:Nat) (G:Ky->Cm) (D:List zQ) (n':Nat) (D':List zQ) (w':World):Prop :=
 ∃G',xE n0 w' g m n' G' D'/\(∀b,nT g m G' D' b->nT g m G D b∨W.heap.size<=b)/\Fr (nT g m G D) W w'
theorem gY.same {W b:World} (h:xE n0 W g m n G D) (a:Below W.heap.size W b) (c:n<=n'):gY n0 W g m G D n' D b :=
 ⟨G,(h.on a).mono c,fun _ a=>Or.inl a,Fr.of_below a⟩
theorem zJk {k:Ky}:∀{D:List zQ},OkD D->ofD D k≠[]->sC k (ofD D k) D=D
 | [],_,h=>absurd rfl h
 | r::d,ho,h=>by
  have b:=ho.rise;rw [List.map_cons] at b;unfold sC
  by_cases e:r.1=k
  ·have a:ofD (r::d) k=r.2:=by unfold ofD;rw [if_pos e]
   rw [if_neg (by rw [<-e,wX.irr];simp),if_pos e,a,<-e]
  have a:ofD (r::d) k=ofD d k:=by conv=>lhs;unfold ofD;rw [if_neg e]
  rw [a] at h ⊢;have i:k∈d.map Prod.fst:=(vG ho.tail k).2 h;have c:yR r.1 k=true:=(List.pairwise_cons.1 b).1 k i;rw [if_neg,if_neg e,zJk ho.tail h];intro f;have:=wX.tr _ _ _ c f;rw [wX.irr] at this
  cases this
theorem zBx {u w4 A:World} (h:xE n0 u g m n G D) (k:Ky) (f:Cm)
  (hc:(ofD D k≠[]/\f=G k)∨(ofD D k=[]/\∀b,f.blk b->¬ nT g m G D b)) {l':List Vr} (ht:qO n0 u f.g f.d f.vs l' w4) (f5:Fr (fun b=>b=m) w4 A)
  (hm:tL A m n' (fun y=>if y=k then some f.g else fOf G D y)) (hl:l'≠[]) (hk:xI k.1 k.2=true) (hok:OkV l') (hnum:(yG l').num<=n') (hfew:zT (sC k l' D)<=n') (hn:n<=n') :
  ∃p,xE n0 A g m n' p (sC k l' D)/\(∀b,nT g m p (sC k l' D) b->nT g m G D b∨f.blk b∨u.heap.size<=b)/\Fr (fun b=>b=m∨f.blk b) u A:=by
 obtain ⟨F,E,N,O,J,Q⟩:=ht;have R:=h.map.lt;have M:=zH h.cell;have M:g<u.heap.size:=M
 have K:∀b,f.blk b->b≠g/\b≠m/\∀y,y≠k->ofD D y≠[]->¬ (G y).blk b:=by
  intro b a
  rcases hc with ⟨j,rfl⟩|⟨j,t⟩
  ·exact ⟨(h.off k j b a).1,(h.off k j b a).2,fun y c z=>h.apart k y j z (Ne.symm c) b a⟩
  have:=t b a;exact ⟨fun e=>this (Or.inl e),fun e=>this (Or.inr (Or.inl e)),fun y _ z H=>this (Or.inr (Or.inr ⟨y,z,H⟩))⟩
 have v:∀b,zB2 f.g F E b->b≠g/\b≠m/\∀y,y≠k->ofD D y≠[]->¬ (G y).blk b:=by
  intro b a
  rcases J b a with a|a
  ·exact K b a
  refine ⟨fun e=>by omega,fun e=>by omega,fun y _ z H=>?_⟩;have:=((h.prg y z).1.blk b H).2;omega
 have C:Fr (fun b=>b=m∨f.blk b) u A:=Fr.then (Q.mono fun b a=>Or.inr a) f5 fun b a=>Or.inl (Or.inl a)
 have I:∀y,ofD (sC k l' D) y=if y=k then l' else ofD D y:=fun y=>bN k y l' D
 have i:∀y,y≠k->ofD (sC k l' D) y=ofD D y:=fun y c=>by rw [I,if_neg c]
 have P:ofD (sC k l' D) k=l':=by rw [I,if_pos rfl]
 obtain ⟨p,w,r⟩:∃p:Ky->Cm,p k=⟨f.g,F,E⟩/\∀y,y≠k->p y=G y:=⟨fun y=>if y=k then ⟨f.g,F,E⟩ else G y,if_pos rfl,fun y c=>if_neg c⟩;refine ⟨p,?_,?_,C⟩
 ·refine ⟨C.cell h.cell ?_,h.bg,h.bm,hm.congr fun y _=>?_,fun y c=>?_,fun s l j t L b B q=>?_,fun y c b a=>?_,zJl h.ok k hok hl,fun y c=>?_,fun y=>?_,hfew⟩
  ·rintro (e|e)
   ·exact h.ne e
   grind
  ·grind [fOf]
  ·by_cases e:y=k
   ·subst e;rw [w,P];exact ⟨N.fr f5 fun b a=>(v b a).2.1,O⟩
   rw [r y e,i y e];rw [i y e] at c;refine ⟨(h.prg y c).1.fr C fun b a x=>?_,(h.prg y c).2⟩
   rcases x with x|x
   ·exact (h.off y c b a).2 x
   exact (K b x).2.2 y e c a
  ·by_cases e1:s=k
   ·subst e1;have o:l≠s:=Ne.symm L;rw [w] at B;rw [r l o] at q;rw [i l o] at t;exact (v b B).2.2 l o t q
   rw [r s e1] at B;rw [i s e1] at j
   by_cases o:l=k
   ·subst o;rw [w] at q;exact (v b q).2.2 s e1 j B
   rw [r l o] at q;rw [i l o] at t;exact h.apart s l j t L b B q
  ·by_cases e:y=k
   ·subst e;rw [w] at a;exact ⟨(v b a).1,(v b a).2.1⟩
   rw [r y e] at a;rw [i y e] at c;exact h.off y c b a
  ·by_cases e:y=k
   ·grind
   rw [i y e] at c;exact h.key y c
  by_cases e:y=k
  ·grind
  rw [i y e];have:=h.num y;omega
 rintro b (rfl|rfl|⟨y,c,a⟩)
 ·exact Or.inl (Or.inl rfl)
 ·exact Or.inl (Or.inr (Or.inl rfl))
 by_cases e:y=k
 ·subst e;rw [w] at a
  rcases J b a with a|a
  ·exact Or.inr (Or.inl a)
  omega
 rw [r y e] at a;rw [i y e] at c;exact Or.inl (Or.inr (Or.inr ⟨y,c,a⟩))
end
end
section
open Go.RowKit
section
variable {n0 g m n:Nat} {W wc w4:World} {G:Ky→Cm} {D:List zQ}
def wQ (D:List zQ) (k:Ky) (stamp:Int) (live:Bool) (val:List Fld):Int:=if xI k.1 k.2=true then uD (ofD D k) stamp live val else 2
def zBs (D:List zQ) (k:Ky) (stamp:Int) (live:Bool) (val:List Fld):Int:=if wQ D k stamp live val=0 then (yG (ofD D k)).num+1 else 0
def nV (D:List zQ) (k:Ky) (stamp tick:Int) (live:Bool) (val:List Fld):List zQ:=if wQ D k stamp live val=0 then sC k (pA (ofD D k) stamp tick live val) D else D
theorem zG8 (l:List Vr) (b tick:Int) (c:Bool) (a:List Fld):(pA l b tick c a).length=l.length+1:=by unfold pA;simp
theorem zJa (l:List Vr) (b tick:Int) (c:Bool) (a:List Fld):pA l b tick c a≠[]:=by unfold pA;simp
theorem zO3 (l:List Vr) (b tick:Int) (c:Bool) (a:List Fld):(yG (pA l b tick c a)).num=(yG l).num+1:=by unfold pA;rw [zHg]
theorem zHJ {f:World} (h:xE n0 W g m n G D) (i:Below W.heap.size W wc) (k:Ky) (c:Cm) (j:xI k.1 k.2=true)
  (hc:(ofD D k≠[]/\c=G k)∨(ofD D k=[]/\∀b,c.blk b->W.heap.size<=b)) {stamp tick:Int} {live:Bool} {val:List Fld} (ht:qO n0 wc c.g c.d c.vs (zA1 (ofD D k) stamp tick live val) w4) (hcode:uD (ofD D k) stamp live val=0)
  (f5:Fr (fun b=>b=m) w4 f) (hm:tL f m (n+1) (fun y=>if y=k then some c.g else fOf G D y)):gY n0 W g m G D (n+1) (nV D k stamp tick live val) f:=by
 have q:zA1 (ofD D k) stamp tick live val=pA (ofD D k) stamp tick live val:=if_pos hcode;rw [q] at ht
 have r:OkV (pA (ofD D k) stamp tick live val):=by
  obtain ⟨C,K,l,o,_⟩:=ht;rw [<-o];exact l.ok
 have A:wQ D k stamp live val=0:=by unfold wQ;rw [if_pos j];exact hcode
 have t:=pT k (pA (ofD D k) stamp tick live val) h.ok;rw [zG8] at t;have J:=h.num k;have I:=h.few;obtain ⟨s,p,E,u⟩:=zBx (h.on i) k c (hc.imp id fun ⟨a,b⟩=>⟨a,fun x H w=>by have:=(h.blk x w).2;grind⟩) ht f5 hm (zJa _ _ _ _ _) j r (by rw [zO3];omega) (by omega) (by omega);have B:=i.size
 have F:∀b,c.blk b->nT g m G D b∨W.z<=b:=fun b e=>by
  rcases hc with ⟨a,rfl⟩|⟨_,a⟩
  ·exact Or.inl (Or.inr (Or.inr ⟨k,a,e⟩))
  grind
 have v:nV D k stamp tick live val=sC k (pA (ofD D k) stamp tick live val) D:=if_pos A;rw [v];refine ⟨s,p,fun b e=>?_,Fr.then (Fr.of_below i) u fun b e=>?_⟩
 ·grind
 rcases e with rfl|e
 ·exact Or.inl (Or.inr (Or.inl rfl))
 grind
theorem zGq (h:xE n0 W g m n G D) (c:Below W.heap.size W wc) (k:Ky) (i:Cm) (o:xI k.1 k.2=true)
  (hc:(ofD D k≠[]/\i=G k)∨(ofD D k=[]/\∀b,i.blk b->W.heap.size<=b)) {stamp tick:Int} {live:Bool} {val:List Fld} (ht:qO n0 wc i.g i.d i.vs (zA1 (ofD D k) stamp tick live val) w4) (hcode:uD (ofD D k) stamp live val≠0):gY n0 W g m G D (n+1) (nV D k stamp tick live val) w4:=by
 have s:zA1 (ofD D k) stamp tick live val=ofD D k:=if_neg hcode;rw [s] at ht;have C:wQ D k stamp live val≠0:=by unfold wQ;rw [if_pos o];exact hcode
 have B:nV D k stamp tick live val=D:=if_neg C;rw [B];have l:=c.size
 rcases hc with ⟨a,rfl⟩|⟨a,b⟩
 ·have w:OkV (ofD D k):=mX h.ok k;have F:=pT k (ofD D k) h.ok;have I:=h.num k;have H:=h.few
  have t:w4.heap[m]? = wc.heap[m]?:=by
   obtain ⟨u,E,_,_,_,f⟩:=ht;exact f.block m (Nat.lt_of_lt_of_le h.map.lt l) fun v=>(h.off k a m v).2 rfl
  have r:tL w4 m (n+1) (fun y=>if y=k then some (G k).g else fOf G D y):=(((h.map.on (c.block m h.map.lt)).on t).mono (Nat.le_succ n)).congr fun y _=>by
   by_cases e:y=k
   ·subst e;rw [if_pos rfl,uL a]
   grind
  obtain ⟨z,q,p,A⟩:=zBx (h.on c) k (G k) (Or.inl ⟨a,rfl⟩) ht (Fr.refl _ _) r a o w (by omega) (by omega) (by omega);rw [zJk h.ok a] at q p;refine ⟨z,q,fun x j=>?_,Fr.then (Fr.of_below c) A fun x j=>?_⟩
  ·rcases p x j with h|h|h
   ·grind
   ·exact Or.inl (Or.inr (Or.inr ⟨k,a,h⟩))
   omega
  rcases j with rfl|j
  ·exact Or.inl (Or.inr (Or.inl rfl))
  exact Or.inl (Or.inr (Or.inr ⟨k,a,j⟩))
 obtain ⟨u,E,_,_,_,f⟩:=ht;exact gY.same h (c.trans (f.below l b)) (Nat.le_succ n)
theorem zMr (h:xE n0 W g m n G D) (hn:n<2400000000000) (ba:n0<=W.heap.size) (k:Ky) (Z:yM k) (c tick:Int) (i:Bool) (v:Value) (e:List Fx) (j:List Fld) (hv:wJ W v e) (hf:xB e) (aq:e.map Fx.fld=j) (h0:0<=c) :
  Calls Tryz.prog 114 #[.pointer (some ⟨g,0,none⟩),.agg #[.string k.1,.string k.2],.int .u64 c,.int .i64 tick,.bool i,v] W fun r a =>
   r=.returned (.tuple #[.int .i64 (zBs D k c i j),.int .i64 (wQ D k c i j)])/\gY n0 W g m G D (n+1) (nV D k c tick i j) a:=by
 obtain ⟨N,hN⟩:=eE W.heap.size;obtain ⟨W1,hW1⟩:=eE (W.alloc (.cells #[tq k.1,tq k.2] 36));have ax:W1.heap.size=N+1:=by rw [<-hW1,<-hN];simp
 have az:Below N W W1:=by rw [<-hW1,<-hN];exact (Below.refl _ _).alloc (Nat.le_refl _) _
 have av:W1.heap[N]? = some (oc #[tq k.1,tq k.2] 36):=by rw [<-hW1,<-hN];exact heap_alloc_new W _
 have X:Hid (∀a,Bw W1 a->a.cell? (aa N 0)=some (tq k.1)/\a.cell? (aa N 1)=some (tq k.2)):=fun a l=>by
  have:=(l.block N (by omega)).trans av;exact ⟨by rw [Lib.cell_of_heap this];rfl,by rw [Lib.cell_of_heap this];rfl⟩
 have w:Hid (∀a,Bw W1 a->Bw W a):=fun a l=>by grind [zA]
 have HK:=hid (zBf k.1 k.2 W1 Z.1 Z.2);have O:Hid (∀a,Bw W1 a->CC 117 #[jp g,.agg #[tq k.1,tq k.2]] a fun e u=>e=.returned (mkP (fOf G D k))/\Bw a u):=fun a l=>(h.on (w.out a l)).of k Z
 have H:=hid h;have HV:=hid hv;obtain ⟨M,L⟩:=X.out W1 (Below.refl _ _);have ay:=h.num k
 cases hkb:xI k.1 k.2 with
 | false =>
  have y:Hid (wQ D k c i j=2/\zBs D k c i j=0/\nV D k c tick i j=D):=by
   have z:wQ D k c i j=2:=by unfold wQ;rw [hkb];rfl
   refine ⟨z,?_,?_⟩
   ·grind [zBs]
   grind [nV]
  rw [y.o.1,y.o.2.1,y.o.2.2];rw [hkb] at HK;obtain ⟨t,s⟩:=k;simp only at *;go_enter Tryz.func114,Tryz.ntmps114;go_wp2_with fail;refine HK.o.mono ?_;rintro e u ⟨rfl,hb2⟩;have A:=hid (w.out u hb2);go_wp2_with fail
  go_ret2
  exact ⟨rfl,gY.same H.o A.o (Nat.le_succ n)⟩
 | true =>
 rw [hkb] at HK;have ad:Hid (wQ D k c i j=uD (ofD D k) c i j):=by show _=_;unfold wQ;rw [hkb];rfl
 have ae:=hid hkb;have ar:=h.cell;have ac:g<W.heap.size:=zH ar;have af:=h.map.lt;have KG:Hid (∀a:World,a.heap[g]? = W.heap[g]?->a.cell? (aa g 0)=some (.map (some m))):=fun a he=>(World.cell?_of_block he).trans ar
 by_cases hof:ofD D k=[]
 ·skip
  have T:Hid (∀a wc,Bw W1 a->vB a.heap.size wc a.heap.size [] (sc none 0 0)->Bw a wc->CC 167 #[jp a.heap.size,iu c,ii tick,.bool i,v] wc fun r u =>
    r=.returned (.tuple #[ii (zAy (ofD D k) c i j),ii (uD (ofD D k) c i j)])/\qO n0 wc a.heap.size [] (sc none 0 0) (zA1 (ofD D k) c tick i j) u):=fun a wc l hp Y=>by
   have hb':=w.out a l;have hs':=hb'.size;have:=zJr (hp.weak (show n0<=a.heap.size by omega)) c tick i v e j ((HV.o.kept hb').kept Y) hf aq h0 (by show (0:Int)<_;omega)
   grind
  have F:Hid (∀a:World,Bw W1 a->∀b,zB2 a.heap.size [] (sc none 0 0) b->b=a.heap.size/\N+1<=b):=fun a l b hx=>by
   have hs':=l.size
   rcases hx with rfl|hx|⟨x,hx,_⟩
   ·exact ⟨rfl,by omega⟩
   ·cases hx
   simp at hx
  rw [pE hof] at O;simp only [mkP,Option.map_none] at O;obtain ⟨C,B⟩:=eE (uD (ofD D k) c i j);obtain ⟨pn,hpn⟩:=eE (zAy (ofD D k) c i j);rw [B,hpn] at T
  by_cases hz:C=0
  ·have ak:(C != 0)=false:=by rw [hz];rfl
   have y:Hid (wQ D k c i j=0/\zBs D k c i j=pn):=by
    have z:wQ D k c i j=0:=by rw [ad.o,B,hz]
    refine ⟨z,?_⟩;unfold zBs;rw [if_pos z,<-hpn];unfold zAy;rw [B,hz,if_pos rfl]
   have HZ:Hid (uD (ofD D k) c i j=0):=B.trans hz;rw [y.o.1,y.o.2];obtain ⟨t,s⟩:=k;simp only at *;go_enter Tryz.func114,Tryz.ntmps114;go_wp2_with fail;refine HK.o.mono ?_;rintro e u ⟨rfl,hb2⟩;obtain ⟨M,L⟩:=X.out u hb2;have R:=hid (O.o u hb2);have A:=hid hb2;go_wp2_with fail;refine R.o.mono ?_;rintro e w3 ⟨rfl,hb3⟩;have p:Hid (Bw W1 w3):=zA A.o A.o.size hb3;have ao:=hid (zJd w3);go_wp2_with fail;refine ao.o.mono ?_;rintro e wc ⟨rfl,hpc,Y⟩;have I:Hid (Bw W1 wc):=zA p.o p.o.size Y;have U:=hid (T.o w3 wc p.o hpc Y);have aw:=p.o.size;go_wp2_with fail;refine U.o.mono ?_;rintro e w4 ⟨rfl,ht⟩;have Q:=hid ht;obtain ⟨M,L⟩:=X.out wc I.o;have V:Fr (zB2 w3.heap.size [] (sc none 0 0)) wc w4:=by obtain ⟨_,_,_,_,_,f⟩:=ht;exact f
   have ab:w4.heap[N]? = wc.heap[N]?:=V.block N (by have:=I.o.size;omega) (fun l=>by have:=(F.o w3 p.o N l).2;omega);have ag:w4.heap[g]? = W.heap[g]?:=(V.block g (Nat.lt_of_lt_of_le ac (w.out _ I.o).size) (fun l=>by have:=(F.o w3 p.o g l).2;omega)).trans ((w.out _ I.o).block g ac);have ah:w4.heap[m]? = W.heap[m]?:=(V.block m (Nat.lt_of_lt_of_le af (w.out _ I.o).size) (fun l=>by have:=(F.o w3 p.o m l).2;omega)).trans ((w.out _ I.o).block m af);have d0:w4.cell? (aa N 0)=some (tq t):=(World.cell?_of_block ab).trans M;have d1:w4.cell? (aa N 1)=some (tq s):=(World.cell?_of_block ab).trans L;have d2:=KG.out w4 ag;obtain ⟨E,an,am,aj⟩:=zHO (W:=w4.drew) (H.o.map.on ah) (k:=(t,s)) Z (by unfold maxLen;omega) w3.heap.size;simp only [pX,mkP,Option.map_some] at an;have ai:=hid am;have al:=hid aj;go_wp2_with fail;refine wp_region_held_drew (S:=fun a=>a.cell? (aa g 0)=some (.map (some m))/\a.cell? (aa N 0)=some (tq t)/\a.cell? (aa N 1)=some (tq s)) (by kernel_rfl) ⟨d2,d0,d1⟩ (fun hHeld=>?_);refine tkv 0 (jp g) hHeld ?_;simp only [Act.put,sz];refine tkv 1 (jp g) hHeld ?_;simp only [Act.put,sz];refine tkv 2 (jp g) hHeld ?_;simp only [Act.put,sz];refine tkv 3 (.map (some m)) hHeld ?_;simp only [Act.put,sz];refine tkv 4 (.agg #[tq t,tq s]) hHeld ?_;simp only [Act.put,sz];refine tkv 5 (jp w3.heap.size) hHeld ?_;simp only [Act.put,sz];refine wpAnyH_ready (rs:=[6]) (by kernel_rfl) (by simp) ?_;refine AllReadyH.cons (zB rfl) (fun K hK=>?_) AllReadyH.nil;rw [if_pos (by rfl)]
   go_simp
   have J:Fr (fun b=>b=m) w4 E:=by
    have q:=Fr.of_grown (P:=fun b=>b=m) al.o fun k Z=>by grind
    exact ⟨q.os,q.tape,q.output,q.size,q.block⟩
   have q5:E.cell? (aa g 0)=some (.map (some m))/\E.cell? (aa N 0)=some (tq t)/\E.cell? (aa N 1)=some (tq s) :=
    ⟨J.cell d2 H.o.ne,J.cell d0 (by grind),J.cell d1 (by grind)⟩
   refine hK.out _ _ q5 (fun hHeld=>?_)
   try simp only [Act.put,sz]
   refine wpAnyH_done (by kernel_rfl) ?_ _;go_wp2_with fail
   go_ret2
   exact ⟨rfl,zHJ H.o (w.out _ I.o) (t,s) ⟨w3.heap.size,[],sc none 0 0⟩ ae.o (Or.inr ⟨hof,fun b l=>by have:=(F.o w3 p.o b l).2;omega⟩) Q.o HZ.o J ai.o⟩
  have ak:(C != 0)=true:=by simpa using hz
  have y:Hid (wQ D k c i j=C/\zBs D k c i j=0):=by
   have z:wQ D k c i j=C:=by rw [ad.o,B]
   refine ⟨z,?_⟩;unfold zBs;rw [z,if_neg hz]
  have HZ:Hid (uD (ofD D k) c i j≠0):=by show _≠_;rw [B];exact hz
  rw [y.o.1,y.o.2];obtain ⟨t,s⟩:=k;simp only at *;go_enter Tryz.func114,Tryz.ntmps114;go_wp2_with fail;refine HK.o.mono ?_;rintro e u ⟨rfl,hb2⟩;obtain ⟨M,L⟩:=X.out u hb2;have R:=hid (O.o u hb2);have A:=hid hb2;go_wp2_with fail;refine R.o.mono ?_;rintro e w3 ⟨rfl,hb3⟩;have p:Hid (Bw W1 w3):=zA A.o A.o.size hb3;have ao:=hid (zJd w3);go_wp2_with fail;refine ao.o.mono ?_;rintro e wc ⟨rfl,hpc,Y⟩;have I:Hid (Bw W1 wc):=zA p.o p.o.size Y;have U:=hid (T.o w3 wc p.o hpc Y);have aw:=p.o.size;go_wp2_with fail;refine U.o.mono ?_;rintro e w4 ⟨rfl,ht⟩;have Q:=hid ht;go_wp2_with fail
  go_ret2
  exact ⟨rfl,zGq H.o (w.out _ I.o) (t,s) ⟨w3.heap.size,[],sc none 0 0⟩ ae.o (Or.inr ⟨hof,fun b l=>by have:=(F.o w3 p.o b l).2;omega⟩) Q.o HZ.o⟩
 skip
 have au:=h.prg k hof;have ap:=h.off k hof
 have T:Hid (∀a,Bw W1 a->CC 167 #[jp ((G k).g),iu c,ii tick,.bool i,v] a fun r u =>
   r=.returned (.tuple #[ii (zAy (ofD D k) c i j),ii (uD (ofD D k) c i j)])/\qO n0 a (G k).g (G k).d (G k).vs (zA1 (ofD D k) c tick i j) u):=fun a l=>by
  have hb':=w.out a l;have:=zJr (au.1.on hb') c tick i v e j (HV.o.kept hb') hf aq h0 (by grind)
  grind
 have F:Hid (∀b,(G k).blk b->b≠g/\b≠m/\b<N):=fun b l=>⟨(ap b l).1,(ap b l).2,by rw [<-hN];exact (au.1.blk b l).2⟩
 rw [uL hof] at O;simp only [mkP,Option.map_some] at O;obtain ⟨C,B⟩:=eE (uD (ofD D k) c i j);obtain ⟨pn,hpn⟩:=eE (zAy (ofD D k) c i j);rw [B,hpn] at T
 by_cases hz:C=0
 ·have ak:(C != 0)=false:=by rw [hz];rfl
  have y:Hid (wQ D k c i j=0/\zBs D k c i j=pn):=by
   have z:wQ D k c i j=0:=by rw [ad.o,B,hz]
   refine ⟨z,?_⟩;unfold zBs;rw [if_pos z,<-hpn];unfold zAy;rw [B,hz,if_pos rfl]
  have HZ:Hid (uD (ofD D k) c i j=0):=B.trans hz;rw [y.o.1,y.o.2];obtain ⟨t,s⟩:=k;simp only at *;go_enter Tryz.func114,Tryz.ntmps114;go_wp2_with fail;refine HK.o.mono ?_;rintro e u ⟨rfl,hb2⟩;obtain ⟨M,L⟩:=X.out u hb2;have R:=hid (O.o u hb2);have A:=hid hb2;go_wp2_with fail;refine R.o.mono ?_;rintro e w3 ⟨rfl,hb3⟩;have p:Hid (Bw W1 w3):=zA A.o A.o.size hb3;have U:=hid (T.o w3 p.o);go_wp2_with fail;refine U.o.mono ?_;rintro e w4 ⟨rfl,ht⟩;have Q:=hid ht;obtain ⟨M,L⟩:=X.out w3 p.o;have V:Fr (zB2 (G (t,s)).g (G (t,s)).d (G (t,s)).vs) w3 w4:=by obtain ⟨_,_,_,_,_,f⟩:=ht;exact f
  have ab:w4.heap[N]? = w3.heap[N]?:=V.block N (by have:=p.o.size;omega) (fun l=>by have:=(F.o N l).2.2;omega);have ag:w4.heap[g]? = W.heap[g]?:=(V.block g (Nat.lt_of_lt_of_le ac (w.out _ p.o).size) (fun l=>(F.o g l).1 rfl)).trans ((w.out _ p.o).block g ac);have ah:w4.heap[m]? = W.heap[m]?:=(V.block m (Nat.lt_of_lt_of_le af (w.out _ p.o).size) (fun l=>(F.o m l).2.1 rfl)).trans ((w.out _ p.o).block m af);have d0:w4.cell? (aa N 0)=some (tq t):=(World.cell?_of_block ab).trans M;have d1:w4.cell? (aa N 1)=some (tq s):=(World.cell?_of_block ab).trans L;have d2:=KG.out w4 ag;obtain ⟨E,an,am,aj⟩:=zHO (W:=w4.drew) (H.o.map.on ah) (k:=(t,s)) Z (by unfold maxLen;omega) (G (t,s)).g;simp only [pX,mkP,Option.map_some] at an;have ai:=hid am;have al:=hid aj;go_wp2_with fail;refine wp_region_held_drew (S:=fun a=>a.cell? (aa g 0)=some (.map (some m))/\a.cell? (aa N 0)=some (tq t)/\a.cell? (aa N 1)=some (tq s)) (by kernel_rfl) ⟨d2,d0,d1⟩ (fun hHeld=>?_);refine tkv 0 (jp g) hHeld ?_;simp only [Act.put,sz];refine tkv 1 (jp g) hHeld ?_;simp only [Act.put,sz];refine tkv 2 (jp g) hHeld ?_;simp only [Act.put,sz];refine tkv 3 (.map (some m)) hHeld ?_;simp only [Act.put,sz];refine tkv 4 (.agg #[tq t,tq s]) hHeld ?_;simp only [Act.put,sz];refine tkv 5 (.pointer (some ⟨(G (t,s)).g,0,none⟩)) hHeld ?_;simp only [Act.put,sz];refine wpAnyH_ready (rs:=[6]) (by kernel_rfl) (by simp) ?_;refine AllReadyH.cons (zB rfl) (fun K hK=>?_) AllReadyH.nil;rw [if_pos (by rfl)]
  go_simp
  have J:Fr (fun b=>b=m) w4 E:=by
   have q:=Fr.of_grown (P:=fun b=>b=m) al.o fun k Z=>by grind
   exact ⟨q.os,q.tape,q.output,q.size,q.block⟩
  have q5:E.cell? (aa g 0)=some (.map (some m))/\E.cell? (aa N 0)=some (tq t)/\E.cell? (aa N 1)=some (tq s) :=
   ⟨J.cell d2 H.o.ne,J.cell d0 (by grind),J.cell d1 (by grind)⟩
  refine hK.out _ _ q5 (fun hHeld=>?_)
  try simp only [Act.put,sz]
  refine wpAnyH_done (by kernel_rfl) ?_ _;go_wp2_with fail
  go_ret2
  exact ⟨rfl,zHJ H.o (w.out _ p.o) (t,s) (G (t,s)) ae.o (Or.inl ⟨hof,rfl⟩) Q.o HZ.o J ai.o⟩
 have ak:(C != 0)=true:=by simpa using hz
 have y:Hid (wQ D k c i j=C/\zBs D k c i j=0):=by
  have z:wQ D k c i j=C:=by rw [ad.o,B]
  refine ⟨z,?_⟩;unfold zBs;rw [z,if_neg hz]
 have HZ:Hid (uD (ofD D k) c i j≠0):=by show _≠_;rw [B];exact hz
 rw [y.o.1,y.o.2];obtain ⟨t,s⟩:=k;simp only at *;go_enter Tryz.func114,Tryz.ntmps114;go_wp2_with fail;refine HK.o.mono ?_;rintro e u ⟨rfl,hb2⟩;obtain ⟨M,L⟩:=X.out u hb2;have R:=hid (O.o u hb2);have A:=hid hb2;go_wp2_with fail;refine R.o.mono ?_;rintro e w3 ⟨rfl,hb3⟩;have p:Hid (Bw W1 w3):=zA A.o A.o.size hb3;have U:=hid (T.o w3 p.o);go_wp2_with fail;refine U.o.mono ?_;rintro e w4 ⟨rfl,ht⟩;have Q:=hid ht;go_wp2_with fail
 go_ret2
 exact ⟨rfl,zGq H.o (w.out _ p.o) (t,s) (G (t,s)) ae.o (Or.inl ⟨hof,rfl⟩) Q.o HZ.o⟩
end
end
section
open Go.RowKit
section
variable {s t seen:List Ky} {D:List zQ} {k:Ky}
theorem zBh {F:Ky->Nat}:∀{s t:List Ky},s.Nodup->(∀k∈s,k∈t)->(s.map F).sum<=(t.map F).sum
 | [],_,_,_=>Nat.zero_le _
 | k::s,t,hn,hs=>by
  obtain ⟨e,c⟩:=List.nodup_cons.1 hn;obtain ⟨a,b,rfl⟩:=List.append_of_mem (hs k List.mem_cons_self);have f:=zBh (F:=F) (s:=s) (t:=a++b) c fun x d=>by grind
  grind
theorem zNu {F:Ky->Nat} (hs:s.Nodup) (b:t.Nodup) (h:∀k,k∈s↔k∈t):(s.map F).sum=(t.map F).sum :=
 Nat.le_antisymm (zBh hs fun k a=>(h k).1 a) (zBh b fun k a=>(h k).2 a)
theorem zCy {l:List Ky} (h:yT yR l):l.Nodup:=h.imp fun {a b} hab e=>by
 rw [e,wX.irr] at hab
 cases hab
theorem zFn (h:OkD D) (f:List Vr->Nat):((D.map Prod.fst).map fun k=>f (ofD D k)).sum=(D.map fun r=>f r.2).sum:=by
 rw [List.map_map]
 congr 1
 refine List.map_congr_left fun r a=>?_<;>grind [gK]
theorem zHE (h:OkD D) (f:List Vr->Nat) {seen:List Ky} (b:seen.Nodup) (c:∀k∈seen,ofD D k≠[]) (d:∀k,ofD D k≠[]->k∈seen):(seen.map fun k=>f (ofD D k)).sum=(D.map fun r=>f r.2).sum:=by
 rw [<-zFn h f];exact zNu b (zCy h.rise) fun k=>⟨fun a=>(vG h k).2 (c k a),fun a=>d k ((vG h k).1 a)⟩
theorem gG (h:OkD D) (f:List Vr->Nat) {seen:List Ky} (b:seen.Nodup) (c:∀k∈seen,ofD D k≠[]):(seen.map fun k=>f (ofD D k)).sum<=(D.map fun r=>f r.2).sum:=by
 rw [<-zFn h f];exact zBh b fun k a=>(vG h k).2 (c k a)
theorem tZ {G:Ky->Cm}:(fOf G D k).isSome=true↔ofD D k≠[]:=by grind [pE,uL]
theorem tL.uniq {W:World} {m n d:Nat} {f b:Ky->Option Nat} (h:tL W m n f) (e:tL W m d b) {k:Ky} (c:yM k):f k=b k:=by
 have a:=zA3 h c;rw [zA3 e c] at a;injection a with a
 unfold mkP at a;injection a with a
 cases ha:f k<;>cases hb:b k<;>rw [ha,hb] at a<;>simp at a
 rw [a]
theorem mQ (F:Ky->Nat) (s:List Ky) (k:Ky):((s++[k]).map F).sum=(s.map F).sum+F k:=by simp
theorem zIo {n0:Nat} {W:World} {g m n:Nat} {G:Ky->Cm} {D:List zQ} (h:xE n0 W g m n G D) (hn:n<=2400000000000) :
  Calls Tryz.prog 62 #[.pointer (some ⟨g,0,none⟩)] W fun e c=>e=.returned (.int .i64 (zT D:Nat))/\Below W.heap.size W c:=by
 have ae:=hid (zE4 g m W h.cell);have B:=h.map;have r:=hid h
 have ab:Hid (∀seen:List Ky,seen.Nodup->(∀k∈seen,yM k/\(fOf G D k).isSome=true)->(seen.map fun k=>(ofD D k).length).sum<=2400000000000):=fun seen f i=>by
  have:=gG r.out.ok List.length f fun k a=>tZ.1 (i k a).2
  have u:=r.out.few;unfold zT at u;omega
 have Z:Hid (∀seen:List Ky,seen.Nodup->(∀k∈seen,yM k/\(fOf G D k).isSome=true)->(∀k,yM k->(fOf G D k).isSome=true->k∈seen)->(seen.map fun k=>(ofD D k).length).sum=zT D):=fun seen f i u =>
  zHE r.out.ok List.length f (fun k a=>tZ.1 (i k a).2) fun k a=>u k (key_fit (r.out.key k a)) (tZ.2 a)
 have M:Hid (∀c k,Below W.heap.size W c->Calls Tryz.prog 107 #[mkP (fOf G D k)] c fun e j=>e=.returned (ii ((ofD D k).length:Int))/\j=c):=fun c k hb=>zDd (h.on hb) k
 obtain ⟨N,d⟩:∃N,W.heap.size=N:=⟨_,rfl⟩;have al:m<N:=by rw [<-d];exact B.lt
 rw [d] at M;go_enter Tryz.func62,Tryz.ntmps62;go_wp2_with fail;refine ae.out.mono ?_;rintro e w ⟨rfl,rfl⟩;go_wp2_with (at_range;refine cB _ rfl _ rfl m n (fOf G D) rfl B ?_;intro w1 F z ag aj)
 go_frame
 try rw [d] at z;try rw [d];have S:=hid z
 have X:Hid (Below N w w1):=by
  have:=Fr.of_grown (P:=fun _=>False) ag fun k a=>by cases a
  exact this.below (by omega) fun k a=>a.elim
 go_loopg [3] F (fun gg R wr=>∃(seen:List Ky) (o:Nat),R=ii ((seen.map fun k=>(ofD D k).length).sum:Nat)/\o<=gg/\Hid (xO wr m N n (fOf G D) seen o)/\Hid (Below N w wr))
 case atStart=>exact ⟨[],F,rfl,Nat.le_refl _,S.out,X.out⟩
 obtain ⟨seen,o,rfl,ak,HR,H⟩:=hrel;have v:=HR.out;have O:=v.nodup;go_wp2_with (at_next;refine zAx _ rfl _ rfl m N n (fOf G D) seen o rfl v ?_ ?_)
 ·intro ac;have Y:=hid (Z.out seen O.1 O.2.1 fun k f i=>ac k.1 k.2 f i);go_wp2_with fail;go_ret;rw [Y.out,d];exact ⟨rfl,H.out⟩
 intro K y b j J Q V x l ai U ah ad;obtain ⟨k,A⟩:∃k:Ky,(K,y)=k:=⟨_,rfl⟩;rw [A] at Q V x l
 have E:Below N w j:=by
  have:=Fr.of_grown (P:=fun b=>b=N) U fun k a=>by injection a with a;exact a.symm
  exact H.out.trans (this.below (by have:=v.lt;omega) fun k a=>by omega)
 have p:=hid (M.out j k E);rw [x] at p;have L:=ab.out (seen++[k]) l.nodup.1 l.nodup.2.1;rw [mQ] at L;have I:=hid (mQ (fun k=>(ofD D k).length) seen k);have af:=hid l;have T:=hid E;obtain ⟨q,C⟩:∃q,(seen.map fun k=>(ofD D k).length).sum=q:=⟨_,rfl⟩;obtain ⟨ln,hln⟩:∃ln,(ofD D k).length=ln:=⟨_,rfl⟩;rw [C,hln] at L I;rw [C];rw [hln] at p;have e1:IntKind.i64.wrap ((q:Int)+(ln:Int))=((q+ln:Nat):Int):=by rw [IntKind.wrap_i64];omega
 subst A;simp only [pX,mkP,Option.map_some] at ad p ⊢;go_wp2_with fail;refine p.out.mono ?_;rintro e w3 ⟨rfl,rfl⟩;go_wp2_with fail;go_roundg J
 case measure=>omega
 exact ⟨seen++[(K,y)],J,by rw [I.out];go_num,Nat.le_refl _,af.out,T.out⟩
end
end
section
open Go.RowKit
section
variable {w W wr:World} {b n0 g m n r cnt:Nat} {G:Ky→Cm} {D:List zQ} {k:Ky} {f:Int} {seen:List Ky}
theorem zCP {o:Nat} {v:Value} (h:w.cell? ⟨b,o,none⟩=some v):∃cs t fz,w.heap[b]? = some (.cells cs t fz):=by grind [World.cell?]
theorem vB.cells {d:List Vx} {e:Value} (h:vB n0 w g d e) {b:Nat} (a:zB2 g d e b):∃c t fz,w.heap[b]? = some (.cells c t fz):=by
 rcases a with rfl|a|⟨x,i,a⟩
 ·exact zCP h.cell
 ·obtain ⟨c,j⟩:=zU (show w.ownsRow n0 42 5 e d.length (KV.cells d) from h.row) a
  grind
 rcases a with a|⟨f,l,a⟩
 ·obtain ⟨c,j⟩:=zU (h.each x i).1.1.1 a
  grind
 obtain ⟨c,j⟩:=zU ((h.each x i).1.1.2 f l) a
 grind
theorem xE.noIter (h:xE n0 W g m n G D) {b:Nat} (d:nT g m G D b) {x:Option Nat} {s:Nat} {a:Array Nat} {c:Nat}:W.heap[b]?≠some (.mapIter x s a c):=by
 intro q
 rcases d with rfl|rfl|⟨k,i,d⟩
 ·obtain ⟨l,t,j,e⟩:=zCP h.cell
  grind
 ·obtain ⟨o,p,e⟩:=h.map.obj
  grind
 obtain ⟨l,t,j,e⟩:=(h.prg k i).1.cells d
 grind
theorem zOu {E:List zQ} (h:OkD D) (c:OkD E) (a:E.map Prod.fst=D.map Prod.fst) (d:∀k,ofD E k=ofD D k):E=D:=by
 have e:∀{X:List zQ},OkD X->X=(X.map Prod.fst).map fun k=>(k,ofD X k):=fun {X} hX=>by
  rw [List.map_map];refine (List.map_id X).symm.trans (List.map_congr_left fun r i=>?_)
  grind [gK]
 rw [e h,e c,a];exact List.map_congr_left fun k _=>by rw [d]
theorem zIN {l:List Vr} (h:OkD D) (a:ofD D k≠[]):(sC k l D).map Prod.fst=D.map Prod.fst:=by
 rw [zAn];exact zIO wX h.rise ((vG h k).2 a)
def zJL (n0:Nat) (W:World) (g m n:Nat) (G:Ky->Cm) (D:List zQ) (f:Int) (r:Nat) (seen:List Ky) (cnt:Nat) (wr:World):Prop :=
 ∃G' D',xO wr m r n (fOf G D) seen cnt/\xE n0 wr g m n G' D'/\D'.map Prod.fst=D.map Prod.fst/\(∀k∈seen,ofD D' k=vP (ofD D k) f)/\(∀k,k ∉ seen->ofD D' k=ofD D k) /\
  (∀b,nT g m G' D' b->nT g m G D b∨W.heap.size<=b)/\Fr (nT g m G D) W wr
theorem zJL.range (h:zJL n0 W g m n G D f r seen cnt wr):xO wr m r n (fOf G D) seen cnt:=by
 obtain ⟨_,_,h,_⟩:=h;exact h
theorem zLF (l:List Vr) (f:Int):(yG (vP l f)).num=(yG l).num:=by grind [yG,zIW]
theorem zNC {C:Nat} {i:World} (N:OkD D) (h:zJL n0 W g m n G D f r seen cnt wr) (hr:W.heap.size<=r) {k:Ky} {b:Nat} (J:yM k) (M:k ∉ seen) (v:fOf G D k=some b)
  (hr2:xO i m r n (fOf G D) (seen++[k]) C) (hg2:wr.grownBy i (some r)) :
  Calls Tryz.prog 121 #[.pointer (some ⟨b,0,none⟩),.int .u64 f] i fun e l=>e=.returned (.int .i64 (vQ (ofD D k) f:Nat))/\zJL n0 W g m n G D f r (seen++[k]) C l:=by
 obtain ⟨j,q,K,F,T,Z,U,o,B⟩:=h;obtain ⟨si,sn,sc,hit⟩:=K.iter;have u:Fr (fun x=>x=r) wr i:=Fr.of_grown hg2 fun x c=>by grind
 have a:xE n0 i g m n j q:=F.fr u fun x c e=>by subst e;exact F.noIter c hit
 have A:ofD D k≠[]:=tZ.1 (by rw [v];rfl);have hok':ofD q k=ofD D k:=U k M;have hne':ofD q k≠[]:=by rw [hok'];exact A
 have V:(j k).g=b:=by
  have:=tL.uniq a.map hr2.map J;rw [uL hne',v] at this;injection this
 have H:=(a.prg k hne').1;have I:=(a.prg k hne').2;rw [<-V];refine (zKK H f).mono ?_;rintro e l ⟨rfl,s⟩;rw [I,hok'] at s ⊢;refine ⟨rfl,?_⟩;obtain ⟨si2,sn2,sc2,hit2⟩:=hr2.iter;have E:Fr (zB2 (j k).g (j k).d (j k).vs) i l:=by obtain ⟨_,_,_,_,_,f⟩:=s;exact f
 have z:l.heap[m]? = i.heap[m]?:=E.block m a.map.lt fun t=>(a.off k hne' m t).2 rfl
 have R:l.heap[r]? = i.heap[r]?:=E.block r hr2.lt fun t=>a.noIter (Or.inr (Or.inr ⟨k,hne',t⟩)) hit2
 have X:=pT k (vP (ofD D k) f) a.ok;have ac:=zAk (ofD D k) f;have ad:=a.few;have P:=a.num k;rw [hok'] at X P;have Y:OkV (vP (ofD D k) f):=zGP (mX N k) f
 obtain ⟨L,O,Q,S⟩:=zBx a k (j k) (Or.inl ⟨hne',rfl⟩) s (Fr.refl _ _) ((a.map.on z).congr fun y _=>by
   by_cases e:y=k
   ·subst e;rw [if_pos rfl,uL hne']
   grind) (zGo A f) (a.key k hne') Y (by grind [zLF]) (by omega) (Nat.le_refl n)
 have ab:=B.size;have hs2':=u.size;refine ⟨L,_,hr2.on z R,O,(zIN a.ok hne').trans T,fun y p=>?_,fun y p=>?_,fun x c=>?_,?_⟩
 ·rw [bN]
  grind
 ·rw [List.mem_append,not_or,List.mem_singleton] at p;rw [bN,if_neg p.2]
  grind
 ·rcases Q x c with h|h|h
  ·exact o x h
  ·exact o x (Or.inr (Or.inr ⟨k,hne',h⟩))
  omega
 refine Fr.then (Fr.then B u fun x c=>?_) S fun x c=>?_
 ·omega
 rcases c with rfl|c
 ·exact o x (Or.inr (Or.inl rfl))
 exact o x (Or.inr (Or.inr ⟨k,hne',c⟩))
theorem zMG {c:World} (h:xE n0 W g m n G D) (f:Int) {r cnt:Nat} (e:xO c m r n (fOf G D) [] cnt) (a:Below W.heap.size W c):zJL n0 W g m n G D f r [] cnt c :=
 ⟨G,D,e,h.on a,rfl,fun k d=>by simp at d,fun _ _=>rfl,fun _ a=>Or.inl a,Fr.of_below a⟩
theorem zQi (c:xE n0 W g m n G D) {f:Int} {r:Nat} {seen:List Ky} {cnt:Nat} (h:zJL n0 W g m n G D f r seen cnt wr) (t:∀k,yM k->(fOf G D k).isSome=true->k∈seen):gY n0 W g m G D n (vK D f) wr:=by
 obtain ⟨p,l,q,a,j,i,o,u,s⟩:=h
 have e:l=vK D f:=by
  refine zOu (zDc c.ok f) a.ok (by rw [j,zBV]) fun k=>?_
  rw [nY]
  by_cases hk:ofD D k=[]
  ·have v:k ∉ seen:=fun d=>(tZ.1 (q.nodup.2.1 k d).2) hk
   rw [o k v,hk];rfl
  exact i k (t k (key_fit (c.key k hk)) (tZ.2 hk))
 subst e;exact ⟨p,a,u,s⟩
theorem zI4 (h:xE n0 W g m n G D) (hn:n<=2400000000000) (f:Int) :
  Calls Tryz.prog 74 #[.pointer (some ⟨g,0,none⟩),.int .u64 f] W fun e w'=>e=.returned (.int .i64 (sG D f:Nat))/\gY n0 W g m G D n (vK D f) w':=by
 have ab:=hid (zE4 g m W h.cell);have S:=h.map;have i:=hid h
 have Y:Hid (∀seen:List Ky,seen.Nodup->(∀k∈seen,yM k/\(fOf G D k).isSome=true)->(seen.map fun k=>vQ (ofD D k) f).sum<=2400000000000):=fun seen c d=>by
  have:=gG i.o.ok (fun l=>vQ l f) c fun k a=>tZ.1 (d k a).2
  have A:=i.o.few;have h4:=cP D f;unfold sG at h4;omega
 have X:Hid (∀seen:List Ky,seen.Nodup->(∀k∈seen,yM k/\(fOf G D k).isSome=true)->(∀k,yM k->(fOf G D k).isSome=true->k∈seen)->(seen.map fun k=>vQ (ofD D k) f).sum=sG D f):=fun seen c d A =>
  zHE i.o.ok (fun l=>vQ l f) c (fun k a=>tZ.1 (d k a).2) fun k a=>A k (key_fit (i.o.key k a)) (tZ.2 a)
 obtain ⟨N,s⟩:=eE W.heap.size;go_enter Tryz.func74,Tryz.ntmps74;go_wp2_with fail;refine ab.o.mono ?_;rintro e w0 ⟨rfl,rfl⟩;go_wp2_with (at_range;refine cB _ rfl _ rfl m n (fOf G D) rfl S ?_;intro w1 B x ac af)
 go_frame
 try rw [s] at x;try rw [s]
 have T:Hid (Bw w0 w1):=by
  have:=Fr.of_grown (P:=fun _=>False) ac fun k a=>by cases a
  exact this.below (Nat.le_refl _) fun k a=>a.elim
 have M:=hid (zMG i.o f x T.o)
 go_loopg [5] B (fun gg L wr=>∃(seen:List Ky) (cnt:Nat),L=ii ((seen.map fun k=>vQ (ofD D k) f).sum:Nat)/\cnt<=gg/\Hid (zJL n0 w0 g m n G D f N seen cnt wr))
 case atStart=>exact ⟨[],B,rfl,Nat.le_refl _,M.o⟩
 obtain ⟨seen,cnt,rfl,ag,p⟩:=hrel;have C:=p.o.range;have K:=C.nodup;go_wp2_with (at_next;refine zAx _ rfl _ rfl m N n (fOf G D) seen cnt rfl C ?_ ?_)
 ·intro E;have U:=hid (X.o seen K.1 K.2.1 fun k c d=>E k.1 k.2 c d);have Q:=hid (zQi i.o p.o fun k c d=>E k.1 k.2 c d);go_wp2_with fail;go_ret;rw [U.o];exact ⟨rfl,Q.o⟩
 intro I v b w2 F u z t j ae O ad Z;obtain ⟨k,y⟩:∃k:Ky,(I,v)=k:=⟨_,rfl⟩;rw [y] at u z t j;have q:=hid (zNC i.o.ok p.o (by omega) u z t j O);have J:=Y.o (seen++[k]) j.nodup.1 j.nodup.2.1;rw [mQ] at J;have H:=hid (mQ (fun k=>vQ (ofD D k) f) seen k);obtain ⟨sm,hsm⟩:=eE ((seen.map fun k=>vQ (ofD D k) f).sum);obtain ⟨ln,hln⟩:=eE (vQ (ofD D k) f);rw [hsm,hln] at J H;rw [hsm];rw [hln] at q;have e1:IntKind.i64.wrap ((sm:Int)+(ln:Int))=((sm+ln:Nat):Int):=by rw [IntKind.wrap_i64];omega
 subst y;simp only [pX,mkP,Option.map_some] at Z q ⊢;go_wp2_with fail;refine q.o.mono ?_;rintro e w3 ⟨rfl,R⟩;have V:=hid R;go_wp2_with fail;go_roundg F
 case measure=>omega
 exact ⟨seen++[(I,v)],F,by rw [H.o];go_num,Nat.le_refl _,V.o⟩
end
end
section
open Go.RowKit
section
variable {G:Ky→Cm} {D:List zQ} {seen:List Ky} {N m n cnt:Nat} {w2 W wr:World} {v:Value} {typ:ByteArray} {k:Ky}
theorem Tryz.infoKz:(Tryz.prog.info? 36).map (fun i=>(i.zero,i.size,i.bytes))=some (some (.agg #[.string ⟨#[]⟩,.string ⟨#[]⟩]),2,32):=by kernel_rfl
theorem zQH {a b:ByteArray} (h:a≠b):(a.toList==b.toList)=false:=by
 have:=Z.eqK_iff (a,a) (b,a)
 grind [Z.eqK]
def ofT (typ:ByteArray) (l:List Ky):List Ky:=l.filter fun k=>decide (k.1=typ)
theorem zMF (h:OkD D) (c:∀k,ofD D k≠[]->yM k) {seen:List Ky} (b:∀k∈seen,yM k/\(fOf G D k).isSome=true) (d:∀k,yM k->(fOf G D k).isSome=true->k∈seen) (typ:ByteArray):wD (ofT typ seen)=tQ D typ:=by
 refine wZ wX (uX _).1 (h.rise.sublist (List.filter_sublist)) fun z=>?_
 rw [(uX _).2];unfold ofT tQ;rw [List.mem_filter,List.mem_filter];refine and_congr ⟨fun a=>(vG h z).2 (tZ.1 (b z a).2),fun a=>?_⟩ Iff.rfl
 grind [vG,tZ]
theorem zMu (typ:ByteArray) (l:List Ky) (k:Ky):ofT typ (l++[k])=ofT typ l++(if k.1=typ then [k] else []):=by grind [ofT]
theorem zOD {α:Type} {K:zC α} {r:Nat} {w:World} {d:List α} {x:Option Nat} {s:Nat} {a:Array Nat} {c:Nat} (h:K.Own N w v d) (hi:w.heap[r]? = some (.mapIter x s a c)) (f:Fr (fun b=>b=r) w w2):K.Own N w2 v d:=by
 refine f.row h fun k g e=>?_
 obtain ⟨j,i⟩:=zU h g
 grind
structure zII (W:World) (m n:Nat) (f:Ky->Option Nat) (N:Nat) (typ:ByteArray) (seen:List Ky) (cnt:Nat) (v:Value) (wr:World):Prop where
 rng:xO wr m N n f seen cnt
 bel:Below N W wr
 own:KK.Own N wr v (ofT typ seen)
theorem zII.next {f:Ky->Option Nat} {cnt2:Nat} (h:zII W m n f N typ seen cnt v wr) (_hN:W.heap.size=N) {k:Ky} (hr2:xO w2 m N n f (seen++[k]) cnt2) (hg2:wr.grownBy w2 (some N)) (u v':Value) (t:TypeId) :
  xO (w2.alloc (.cells #[u,v'] t)) m N n f (seen++[k]) cnt2/\Below N W (w2.alloc (.cells #[u,v'] t))/\KK.Own N (w2.alloc (.cells #[u,v'] t)) v (ofT typ seen):=by
 obtain ⟨si,sn,sc,hit⟩:=h.rng.iter;have f2:Fr (fun x=>x=N) wr w2:=Fr.of_grown hg2 fun x hx=>by grind
 have ha:Bw w2 (w2.alloc (.cells #[u,v'] t)):=(Below.refl _ _).alloc (Nat.le_refl _) _;refine ⟨hr2.on (ha.block _ hr2.map.lt) (ha.block _ hr2.lt),?_,zC.own_on (zOD h.own hit f2) ha⟩;have hb2:Below N W w2:=h.bel.trans (f2.below (by grind) fun x hx=>by omega);exact zA hb2 (by have:=hr2.lt;omega) ha
theorem zII.grow {f:Ky->Option Nat} {i:Value} {w4:World} {l:List Ky} (c:xO wr m N n f (seen++[k]) cnt) (a:Below N W wr) (j:KK.Own N wr v l) (g:wr.grownBy w4 v.ownBlock) (o:KK.Own N w4 i (ofT typ (seen++[k]))):zII W m n f N typ (seen++[k]) cnt i w4:=by
 obtain ⟨r,q,s,p⟩:=c.iter;obtain ⟨es,cl,hm⟩:=c.map.obj
 have h:∀{b:Nat},v.ownBlock=some b->N<=b/\b≠N/\b≠m:=fun {b} hbk=>by
  obtain ⟨t,d⟩:=zU j hbk;refine ⟨(World.ownsRow.lt j b hbk).1,fun e=>?_,fun e=>?_⟩
  ·rw [e,p] at d;cases d
  rw [e,hm] at d;cases d
 refine ⟨c.on (g.block m c.map.lt fun e=>(h e.symm).2.2 rfl) (g.block N c.lt fun e=>(h e.symm).2.1 rfl),?_,o⟩;exact a.trans ((Fr.of_grown (P:=fun b=>v.ownBlock=some b) g fun b a=>a).below (by grind) fun b a=>(h a).1)
theorem zEK {n0:Nat} {g:Nat} (h:xE n0 W g m n G D) (hn:n<=2400000000000) (typ:ByteArray) :
  Calls Tryz.prog 139 #[.pointer (some ⟨g,0,none⟩),.string typ] W fun e V=>∃u,e=.returned u/\KK.Own W.heap.size V u (tQ D typ)/\Below W.heap.size W V:=by
 obtain ⟨i0,M,aj,al,aq⟩:=info_parts Tryz.infoKz;have HI:=hid M;have ac:=hid (zE4 g m W h.cell);have O:=h.map;have HH:=hid h
 have ak:Hid (∀seen:List Ky,(∀k∈seen,yM k/\(fOf G D k).isSome=true)->(∀k,yM k->(fOf G D k).isSome=true->k∈seen)->wD (ofT typ seen)=tQ D typ):=fun seen x w =>
  zMF HH.o.ok (fun k r=>key_fit (HH.o.key k r)) x w typ
 obtain ⟨N,s⟩:=eE W.heap.size;clear h M;go_enter Tryz.func139,Tryz.ntmps139;go_wp2_with fail;refine ac.o.mono ?_;rintro e w0 ⟨rfl,rfl⟩;go_wp2_with (at_range;refine cB _ rfl _ rfl m n (fOf G D) rfl O ?_;intro w1 F C T R)
 go_frame
 try rw [s] at C;try rw [s]
 have K:Hid (zII w0 m n (fOf G D) N typ [] F (sc none 0 0) w1):=by
  have:=Fr.of_grown (P:=fun _=>False) T fun k r=>by cases r
  exact ⟨C,this.below (by omega) fun k r=>r.elim,KK.own_nil _ _⟩
 clear C T R ac O
 go_loopg [5] F (fun gg vs wr=>∃(seen:List Ky) (cnt:Nat),cnt<=gg/\Hid (zII w0 m n (fOf G D) N typ seen cnt vs wr))
 case atStart=>exact ⟨[],F,Nat.le_refl _,K.o⟩
 clear K;obtain ⟨seen,cnt,ax,i⟩:=hrel;have l:=i.o.rng;have A:=l.nodup
 have aw:(ofT typ seen).length<=2400000000000:=by
  have x:(ofT typ seen).length<=seen.length:=List.length_filter_le _ _;have w:=A.2.2;omega
 go_wp2_with (at_next;refine zAx _ rfl _ rfl m N n (fOf G D) seen cnt rfl l ?_ ?_)
 ·intro ab;have HE:=hid (ak.o seen A.2.1 fun k x w=>ab k.1 k.2 x w);have Z:=hid (zEN N _ (ofT typ seen) wr i.o.own (by omega));have HB:=hid i.o.bel;have S:N<=wr.heap.size:=by have:=l.lt;omega
  rw [HE.o] at Z;clear ab l A;go_wp2_with fail;refine Z.o.mono ?_;rintro e w2 ⟨u,rfl,E,X⟩;have ah:=hid E;have an:=hid (zA HB.o S X);obtain ⟨q,c,rfl⟩:=zC.own_shape E;clear E X;go_wp2_with fail;go_ret;rw [s];exact ⟨_,rfl,zC.own_weak ah.o S,an.o⟩
 intro a d b w2 z af ag ae B au L am ap;obtain ⟨J,U,a3⟩:=i.o.next s B L (tq a) (tq d) 36;have f:=hid J;have Q:=hid U;have H:=hid a3;have y:=hid (zMu typ seen (a,d));have R:w0.heap.size<=w2.heap.size:=by have:=B.lt;omega
 simp only [pX,mkP,Option.map_some] at ap ⊢;obtain ⟨p,c,rfl⟩:=zC.own_shape i.o.own;clear l B A L ae af ag J U a3 am
 by_cases ht:a=typ
 ·subst ht;rw [if_pos rfl] at y
  go_wp2_with (first
   | (at_builtin;refine wpList_append_own _ rfl _ _ 46 rfl N 36 i0 (.agg #[tq ⟨#[]⟩,tq ⟨#[]⟩]) 2 32 Tryz.underlying46 HI.o aj al aq rfl (by decide) _ _ _ rfl (World.ownsRow.alloc H.o _) _ 1 1 [tq a,tq d] rfl rfl (fun j u hj=>KK.newsN (w2.alloc (.cells #[tq a,tq d] 36)) (a,d) _ (by simp) j u hj) (by intro u Y;simp at Y;rcases Y with rfl|rfl<;>rfl) (by unfold maxLen;omega) (by omega) (by simp;omega) ?_;intro v4 w4 ad I ao;have ar:=hid ad;have ai:=hid I;clear ad I ao))
  go_roundg z
  case measure=>omega
  refine ⟨seen++[(a,d)],z,Nat.le_refl _,?_⟩;have t:Below (w2.alloc (.cells #[tq a,tq d] 36)).heap.size (w2.alloc (.cells #[tq a,tq d] 36)) ((w2.alloc (.cells #[tq a,tq d] 36)).alloc (.cells #[tq a,tq d] 36)):=(Below.refl _ _).alloc (Nat.le_refl _) _;refine zII.grow (f.o.on (t.block _ f.o.map.lt) (t.block _ f.o.lt)) (zA Q.o (by have:=f.o.lt;omega) t) (zC.own_on H.o t) ai.o ?_;rw [y.o];exact zC.own_snoc ar.o rfl rfl
 have av:=zQH ht;rw [if_neg ht,List.append_nil] at y;go_wp2_with fail;go_roundg z
 case measure=>omega
 exact ⟨seen++[(a,d)],z,Nat.le_refl _,f.o,Q.o,by rw [y.o];exact H.o⟩
end
end
section
open Go.RowKit
section
variable {D:List zQ} {t:Int} {k:Ky} {x:Vx} {w:World} {Bf B n0 g m n cap b0 b1 b2:Nat} {G:Ky→Cm} {keys:List Ky} {p:Option Addr}
attribute [local go_sem] Oper.semAt_some
abbrev Kx:=Ky × Vx
def zJi (x:Kx):Array Value:=#[.agg #[.string x.1.1,.string x.1.2],.agg (zF x.2).toArray]
def zDX (x:Kx):Fnd:=(x.1,x.2.ver)
def tH (D:List zQ) (t:Int) (keys:List Ky):List Fnd:=keys.filterMap fun k=>tT t (k,ofD D k)
theorem zJI (D:List zQ) (t:Int) (ks:List Ky) (k:Ky):tH D t (ks++[k])=tH D t ks++(match tT t (k,ofD D k) with|some x=>[x]|none=>[]):=by grind [tH]
theorem zC3 (a:x.ver=(atV (ofD D k) t).getD zeroV) (c:x.live=true):tT t (k,ofD D k)=some (k,x.ver)/\atV (ofD D k) t=some x.ver:=by
 cases h:atV (ofD D k) t with
 | none =>
  rw [h] at a;have:x.ver.live=false:=by rw [a];rfl
  have e:x.ver.live=x.live:=rfl
  grind
 | some v =>
 rw [h] at a;have b:x.ver=v:=a;refine ⟨?_,by rw [b]⟩;unfold tT;rw [show atV (k,ofD D k).2 t=some v from h];have:v.live=true:=by rw [<-b];exact c
 grind
theorem zKL (a:x.ver=(atV (ofD D k) t).getD zeroV) (b:x.live=false):tT t (k,ofD D k)=none:=by
 unfold tT
 cases h:atV (k,ofD D k).2 t with
 | none=>rfl
 | some v =>
 have h':atV (ofD D k) t=some v:=h;rw [h'] at a;have c:x.ver=v:=a;have:v.live=false:=by rw [<-c];exact b
 simp [this]
theorem zLx (D:List zQ) (t:Int) (ks:List Ky):(tH D t ks).length<=ks.length:=List.length_filterMap_le _ _
theorem zEk (D:List zQ) (t:Int) (ks:List Ky) (i:Nat):tH D t (ks.take i) <+: tH D t ks:=by grind [tH]
theorem grown_of {a:World} (h:Below w.heap.size w a):w.grownBy a none:=⟨h.os,h.tape,h.output,h.size,fun i hi _=>h.block i hi⟩
def GdX (B N:Nat) (pre:List Kx) (x:Kx) (W:World):Prop:=zW B W x.2.sl x.2.o/\yU (x.2.o.map Fx.fld)=true/\pre.length<N/\B<=W.heap.size
def KpX (Bf B:Nat) (W W':World):Prop:=Fr (fun b=>b=Bf∨B<=b) W W'
theorem gM {X Y Z:World} (h:KpX Bf B X Y) (k:KpX Bf B Y Z):KpX Bf B X Z:=Fr.then h k fun _ a=>Or.inl a
theorem zPj (W:World) (l:Nat) (o:Obj) (h:B<=l):KpX Bf B W (W.putObj l o) :=
 ⟨rfl,rfl,rfl,by simp,fun k _ a=>World.putObj_heap_other (fun e=>a (Or.inr (by omega)))⟩
theorem zLw (W:World) (g:Nat) (p:Option Addr) (a cap:Nat) (t:Int) :
  Calls Tryz.prog 138 #[.pointer (some ⟨g,0,none⟩),.slice p a cap,.int .u64 t] W fun e b=>e=.returned (.func (.func 192) #[] #[.pointer (some ⟨W.heap.size+1,0,none⟩),.pointer (some ⟨W.heap.size,0,none⟩),.pointer (some ⟨W.heap.size+2,0,none⟩)]) /\
   b=((W.alloc (.cells #[.pointer (some ⟨g,0,none⟩)] 86)).alloc (.cells #[.slice p a cap] 46)).alloc (.cells #[.int .u64 t] 24):=by
 have c:∀(fn:Fn) (first cap:Array Value) (w:World),(Instr.makeFunc fn first cap).run Tryz.prog w=.ok (.func fn first cap) w:=fun _ _ _ _=>rfl
 go_enter Tryz.func138,Tryz.ntmps138
 go_wp2_with fail
 go_ret;exact ⟨rfl,rfl⟩
structure zL5 (n0:Nat) (w:World) (g m n:Nat) (G:Ky->Cm) (D:List zQ) (keys:List Ky) (t:Int) (p:Option Addr) (cap b0 b1 b2 Bf:Nat):Prop where
 dir:xE n0 w g m n G D
 h0:w.heap[b0]? = some (.cells #[.pointer (some ⟨g,0,none⟩)] 86 (0,0))
 h1:w.heap[b1]? = some (.cells #[.slice p keys.length cap] 46 (0,0))
 h2:w.heap[b2]? = some (.cells #[.int .u64 t] 24 (0,0))
 row:keys=[]∨∃b off,p=some ⟨b,off,none⟩/\KK.At w b off keys/\b≠Bf
 fit:∀k∈keys,yM k
 few:keys.length<=2400000000000
 n0f:b0≠Bf
 n1f:b1≠Bf
 n2f:b2≠Bf
 off:¬ nT g m G D Bf
theorem zL5.fr {n0:Nat} {w W:World} {g m n:Nat} {G:Ky->Cm} {D:List zQ} {keys:List Ky} {t:Int} {p:Option Addr} {cap b0 b1 b2 Bf:Nat} (h:zL5 n0 w g m n G D keys t p cap b0 b1 b2 Bf) (f:KpX Bf w.heap.size w W):zL5 n0 W g m n G D keys t p cap b0 b1 b2 Bf:=by
 have a:∀{b:Nat},b<w.heap.size->b≠Bf->W.heap[b]? = w.heap[b]?:=fun {b} hl hn=>f.block b hl fun e=>by omega
 have c:∀{b:Nat} {o:Obj},w.heap[b]? = some o->b<w.heap.size:=fun h=>(gA h).1
 refine ⟨h.dir.fr f fun b a e=>?_,(a (c h.h0) h.n0f).trans h.h0,(a (c h.h1) h.n1f).trans h.h1,(a (c h.h2) h.n2f).trans h.h2,?_,h.fit,h.few,h.n0f,h.n1f,h.n2f,h.off⟩
 ·rcases e with e|e
  ·rw [e] at a;exact h.off a
  have:=(h.dir.blk b a).2;omega
 rcases h.row with d|⟨b,r,d,s,l⟩
 ·grind
 refine Or.inr ⟨b,r,d,fun i hi j u q=>?_,l⟩;have:=s i hi j u q;exact (World.cell?_of_block (a (zH this) l)).trans this
theorem zMX (nn:Nat) (br:1<=nn) {n0:Nat} {w:World} {g m n:Nat} {G:Ky->Cm} {D:List zQ} {keys:List Ky} {t:Int} {p:Option Addr} {cap b0 b1 b2 Bf:Nat} (h:zL5 n0 w g m n G D keys t p cap b0 b1 b2 Bf) (l:Nat)
  (J Jx:List Kx->World->Prop) (W:World) (hW:Below w.heap.size w W) (hJ:AbidesFrom W.heap.size J)
  (hY:∀a x W1,J a W1->GdX w.heap.size keys.length a x W1->YieldAt Fence.wide (nn-1) Tryz.prog l (zJi x) W1 fun e d =>
   (e=.returned (.bool true)/\J (a++[x]) d/\KpX Bf w.heap.size W1 d)∨(e=.returned (.bool false)/\Jx (a++[x]) d))
  (h0:J [] W) :
  CallsIn Fence.wide nn Tryz.prog 192 #[.func (.yield l) #[] #[],.pointer (some ⟨b1,0,none⟩),.pointer (some ⟨b0,0,none⟩),.pointer (some ⟨b2,0,none⟩)] W fun e d=>(∃v,e=.returned v) /\
   ((∃xs:List Kx,xs.map zDX=tH D t keys/\J xs d)∨(∃a:List Kx,a.map zDX <+: tH D t keys/\Jx a d)):=by
 have Z:=hid h;have U:KpX Bf w.heap.size w W:=Fr.of_below hW;have ag:=h.fr U;have c1:W.cell? (aa b1 0)=some (sc p keys.length cap):=by rw [Lib.cell_of_heap ag.h1];rfl
 have bv:=h.few;have V:Hid (KpX Bf w.heap.size w W/\J [] W):=⟨U,h0⟩;refine callsIn_of_wp Tryz.func192 rfl trivial ?_ rfl;simp only [Tryz.ntmps192,List.size_toArray,List.length_cons,List.length_nil,Nat.reduceAdd,Nat.reduceSub,Array.replicate_succ,Array.replicate_zero,List.push_toArray,List.append_toArray,List.nil_append,List.cons_append]
 gi_wp2
 gi_loopw [11] (fun C wr=>∃(i:Nat) (a:List Kx),C=ii i/\i<=keys.length/\KpX Bf w.heap.size w wr/\a.map zDX=tH D t (keys.take i)/\J a wr/\W.heap.size<=wr.heap.size) (fun C _=>keys.length-(intOf C).toNat)
 case atStart=>exact ⟨0,[],rfl,Nat.zero_le _,V.out.1,rfl,V.out.2,Nat.le_refl _⟩
 obtain ⟨i,a,rfl,hi,H,y,Q,bp⟩:=hrel
 by_cases hlt:i<keys.length
 ·have bi:(i:Int)<(keys.length:Int):=by omega
  have bt:(0:Int)<=i:=by omega
  have N:=Z.o.fr H
  obtain ⟨kb,ko,rfl,au,_⟩:∃b off,p=some (aa b off)/\KK.At wr b off keys/\b≠Bf:=by
   rcases N.row with e|e
   ·rw [e] at hlt;simp at hlt
   exact e
  obtain ⟨k0,k1⟩:=zF2 au i hlt;have M:=N.fit _ (List.getElem_mem hlt);have ac:keys.take (i+1)=keys.take i++[keys[i]]:=List.take_succ_eq_append_getElem hlt;obtain ⟨k,hk⟩:=eE (keys[i]);rw [hk] at k0 k1 M ac;obtain ⟨W2,hW2⟩:=eE (wr.alloc (.cells #[tq k.1,tq k.2] 36));have R:Bw wr W2:=by rw [<-hW2];exact (Below.refl _ _).alloc (Nat.le_refl _) _
  have ax:W2.heap.size=wr.heap.size+1:=by rw [<-hW2];simp
  have X:W2.heap[wr.heap.size]? = some (oc #[tq k.1,tq k.2] 36):=by rw [<-hW2];exact heap_alloc_new wr _
  have ab:KpX Bf w.heap.size w W2:=gM H (Fr.of_below R);have A:=Z.o.fr ab;have bd:=hid (zJT A.dir k M t);have d0:W2.cell? (aa b0 0)=some (jp g):=by rw [Lib.cell_of_heap A.h0];rfl
  have d2:W2.cell? (aa b2 0)=some (iu t):=by rw [Lib.cell_of_heap A.h2];rfl
  have O:W2.cell? (aa wr.heap.size 0)=some (tq k.1):=cz X;have I:W2.cell? (aa wr.heap.size 1)=some (tq k.2):=cz X;have q:=hid (zJI D t (keys.take i) k);rw [<-ac] at q;have S:=hid y
  have bs:a.length<=i:=by
   have E:=congrArg List.length y;rw [List.length_map] at E;have f:=zLx D t (keys.take i);rw [List.length_take] at f;omega
  have ai:Hid (∀v,atV (ofD D k) t=some v->yU v.val=true):=fun v hv=>by
   have z:=zRB hv;have ak:ofD D k≠[]:=by intro e;rw [e] at z;simp at z
   obtain ⟨E,f⟩:=A.dir.prg k ak;rw [<-f] at z;obtain ⟨x,s,rfl⟩:=List.mem_map.1 z;exact (E.each x s).2
  have av:=hid Q;have aw:=hid ab;have az:=hid R;have bf:w.heap.size<=wr.heap.size:=H.size;obtain ⟨c,ao⟩:=eE wr.heap.size;obtain ⟨ka,kbb⟩:=k;simp only at *;rw [ao] at O I ax bf
  gi_wp2
  refine ⟨trivial,?_⟩
  gi_at_call 67
  refine (callsIn_wide.2 bd.o).mono ?_;rintro e j ⟨x,rfl,s,be,ad⟩;have bl:=ad.size;obtain ⟨W4,hW4⟩:=eE (j.alloc (.cells (zF x).toArray 42));have F:Bw j W4:=by rw [<-hW4];exact (Below.refl _ _).alloc (Nat.le_refl _) _
  have bu:=F.size;have aq:wI W4 j.heap.size x:=by rw [<-hW4];exact heap_alloc_new j _
  have u:Bw W2 W4:=zA ad bl F;have af:Bw wr W4:=zA az.o (by omega) u;have bn:W4.cell? (aa c 0)=some (tq ka):=(u.cell (p:=(aa c 0)) (show c<W2.heap.size by omega)).trans O;have bq:W4.cell? (aa c 1)=some (tq kbb):=(u.cell (p:=(aa c 1)) (show c<W2.heap.size by omega)).trans I;have bb:J a W4:=hJ a wr W4 none av.o (grown_of af) fun r e=>by cases e
  have an:zW w.heap.size W4 x.sl x.o:=zJ (be.on F) (by omega);have ba:KpX Bf w.heap.size w W4:=gM aw.o (Fr.of_below u);obtain ⟨v0,v1,v2,v3,v4⟩:=aq.cells;obtain ⟨V0,hV0⟩:=eE j.heap.size;rw [hV0] at v0 v1 v2 v3 v4;have HX:=hid s
  have ay:x.live=true->yU (x.o.map Fx.fld)=true:=fun hl=>by
   obtain ⟨_,f⟩:=zC3 (k:=(ka,kbb)) s hl;exact ai.o _ f
  have am:=hid ay;have bk:=hid an;have Y:=hid ba;have T:=hid bb;have K:W.heap.size<=W4.heap.size:=by omega
  have bh:w.heap.size<=W4.heap.size:=by omega
  obtain ⟨o,ho⟩:=eE ((atV (ofD D (ka,kbb)) t).isSome);rw [ho];obtain ⟨xn,xs,xt,xl,xp,xc,xo⟩:=x;simp only [zF,Vx.sl] at *
  cases xl with
  | true =>
   have bc:GdX w.heap.size keys.length a ((ka,kbb),⟨xn,xs,xt,true,xp,xc,xo⟩) W4:=⟨bk.o,am.o rfl,by omega,bh⟩;obtain ⟨fn,bw,bm,bo,hy,hR⟩:=hY a ((ka,kbb),⟨xn,xs,xt,true,xp,xc,xo⟩) W4 T.o bc;have al:=hid (zC3 HX.o rfl).1;rw [al.o] at q
   have L:Hid ((a++[((ka,kbb),(⟨xn,xs,xt,true,xp,xc,xo⟩:Vx))]).map zDX=tH D t (keys.take (i+1))):=by
    show _=_
    rw [q.o,List.map_append,S.o];rfl
   simp only [zJi,zF,Vx.sl] at hy
   gi_wp2
   refine hR.mono ?_;rintro e W5 (⟨rfl,bg,P⟩|⟨rfl,ah⟩)
   ·have bj:=hid (gM Y.o P);have aj:=hid bg;have ap:W.heap.size<=W5.heap.size:=Nat.le_trans K P.size
    gi_wp2
    go_roundw
    case rel=>exact ⟨i+1,_,by go_num,by omega,bj.o,L.o,aj.o,ap⟩
    case measure=>simp [intOf];omega
   gi_wp2
   refine bodyPost_ret (results_none rfl _ _ _) rfl ?_;exact ⟨⟨_,rfl⟩,.inr ⟨_,by rw [L.o];exact zEk D t keys (i+1),ah⟩⟩
  | false =>
  have ae:=hid (zKL HX.o rfl);simp only [ae.o,List.append_nil] at q
  gi_wp2
  refine ⟨fun _ h=>(by cases h),?_⟩
  gi_wp2
  go_roundw
  case rel=>exact ⟨i+1,a,by go_num,by omega,Y.o,by rw [q.o];exact S.o,T.o,K⟩
  case measure=>simp [intOf];omega
 have bi:¬ (i:Int)<(keys.length:Int):=by omega
 have ar:keys.take i=keys:=List.take_of_length_le (by omega);rw [ar] at y
 gi_wp2
 go_end0
 exact ⟨⟨_,rfl⟩,.inl ⟨a,y,Q⟩⟩
theorem zNh (nn:Nat) (b:1<=nn) {n0:Nat} {w:World} {g m n:Nat} {G:Ky->Cm} {D:List zQ} {keys:List Ky} {t:Int} {p:Option Addr} {cap b0 b1 b2 Bf:Nat} (h:zL5 n0 w g m n G D keys t p cap b0 b1 b2 Bf) :
  zP3 Fence.wide nn Tryz.prog 192 #[.pointer (some ⟨b1,0,none⟩),.pointer (some ⟨b0,0,none⟩),.pointer (some ⟨b2,0,none⟩)] zJi (GdX w.heap.size keys.length) (KpX Bf w.heap.size) (fun a=>a.map zDX=tH D t keys) (fun i=>i.map zDX <+: tH D t keys) w :=
 fun l J j W e d f c=>zMX nn b h l J j W e d f c
end
end
section
open Go.RowKit
section
variable {N Bf B:Nat} {w W W' W4:World} {u v:Value} {o:List Fx} {row:Option Nat} {pre:List Kx} {fs:List Fd}
def zCV (w:World) (l:List Fnd) (e:Ending) (w':World):Prop :=
 ∃u fs,e=.returned u/\KFd.Own w.heap.size w' u fs/\(∀f∈fs,zW w.heap.size w' f.v.sl f.v.o/\yU (f.v.o.map Fx.fld)=true)/\fs.map Fd.fnd=l/\Below w.heap.size w w'
structure kE (Bf:Nat) (w:World) (sel:Fnd->Bool) (pre:List Kx) (v:Value) (fs:List Fd) (W:World):Prop where
 box:W.heap[Bf]? = some (.cells #[v] 43 (0,0))
 own:KFd.Own w.heap.size W v fs
 val:∀f∈fs,zW w.heap.size W f.v.sl f.v.o/\yU (f.v.o.map Fx.fld)=true
 eq:fs.map Fd.fnd=(pre.map zDX).filter sel
 len:fs.length<=pre.length
 fr:Fr (fun b=>b=Bf) w W
 lt:Bf<w.heap.size
theorem sT (h:zW N w u o) {k:Nat} (a:pS u o k):∃b t,w.heap[k]? = some (.cells b t (0,0))/\(t=82∨t=9):=by
 rcases a with a|⟨f,c,a⟩
 ·obtain ⟨b,d⟩:=zU h.1.1 a
  grind
 obtain ⟨b,d⟩:=zU (h.1.2 f c) a
 grind
theorem mV (a:W.grownBy W' row):Fr (fun b=>row=some b) W W':=Fr.of_grown a fun _ h=>h
theorem zJU (h:zW N W u o) (d:W.grownBy W' row) (c:∀r,row=some r->∃ob:Obj,W.heap[r]? = some ob/\ob.isCells=false):zW N W' u o :=
 yD h (mV d) fun k a e=>by
  obtain ⟨f,t,b,_⟩:=sT h a;obtain ⟨ob,h2,h3⟩:=c k e;rw [b] at h2;injection h2 with h2
  rw [<-h2] at h3
  cases h3
theorem zQJ {α:Type} {K:zC α} {d:List α} (h:K.Own N W v d) (b:W.grownBy W' row) (f:∀r,row=some r->∃ob:Obj,W.heap[r]? = some ob/\ob.isCells=false):K.Own N W' v d :=
 (mV b).row h fun k a e=>by
  obtain ⟨g,c⟩:=zU h a;obtain ⟨ob,h2,h3⟩:=f k e;rw [c] at h2;injection h2 with h2
  rw [<-h2] at h3
  cases h3
theorem zCc {b:Nat} {cs:Array Value} {t:TypeId} {d:Nat × Nat} (h:W.heap[b]? = some (.cells cs t d)) (g:W.grownBy W' row) (i:∀r,row=some r->∃c:Obj,W.heap[r]? = some c/\c.isCells=false):W'.heap[b]? = some (.cells cs t d) :=
 (g.block b (gA h).1 fun e=>by
  obtain ⟨c,a,f⟩:=i b e.symm;rw [h] at a;injection a with a
  rw [<-a] at f
  cases f).trans h
theorem kE.nc {d:Fnd->Bool} (h:kE Bf w d pre v fs W) (c:W.grownBy W' row) (a:∀r,row=some r->w.heap.size<=r/\∃ob:Obj,W.heap[r]? = some ob/\ob.isCells=false):kE Bf w d pre v fs W' :=
 ⟨zCc h.box c fun r e=>(a r e).2,zQJ h.own c fun r e=>(a r e).2,fun f g=>⟨zJU (h.val f g).1 c fun r e=>(a r e).2,(h.val f g).2⟩,h.eq,h.len,Fr.then h.fr (mV c) fun b i=>Or.inr (a b i).1,h.lt⟩
theorem kE.own_from (Bf:Nat) (w:World) (a:Fnd->Bool):OwnFrom w.heap.size (fun pre W=>∃v fs,kE Bf w a pre v fs W):=by
 rintro s W W' row ⟨v,fs,h⟩ c b;exact ⟨v,fs,h.nc c b⟩
theorem kE.on {a:Fnd->Bool} (h:kE Bf w a pre v fs W) (b:Below W.heap.size W W'):kE Bf w a pre v fs W' :=
 h.nc (grown_of b) fun r e=>by cases e
theorem GdX.nc {x:Kx} (h:GdX B N pre x W) (a:W.grownBy W' row) (b:∀r,row=some r->∃ob:Obj,W.heap[r]? = some ob/\ob.isCells=false):GdX B N pre x W' :=
 ⟨zJU h.1 a b,h.2.1,h.2.2.1,Nat.le_trans h.2.2.2 a.size⟩
theorem zCh {P:Nat->Prop} (f:Fr P W W') (h:∀b,B<=b->P b->∃e t c,W.heap[b]? = some (.cells e t c)):KeepsFrom B W W' :=
 ⟨f.size,fun k o g a d=>by
  by_cases hp:P k
  ·obtain ⟨e,t,c,i⟩:=h k g hp;rw [i] at a;injection a with a
   rw [<-a] at d
   cases d
  exact (f.block k (gA a).1 hp).trans a⟩
theorem zOk {l:Fnd->Bool} {d:Value} {a:World} {x:Kx} (h:kE Bf w l pre v fs W) (q:GdX w.heap.size N pre x W) (r:Below W.heap.size W W4) (t:W4.grownBy a v.ownBlock)
  (ho1:KFd.Own w.heap.size a d (fs++[⟨x.1.1,x.1.2,x.2⟩])) (hs:l (zDX x)=true) :
  KeepsFrom w.heap.size W (a.setCell ⟨Bf,0,none⟩ d)/\KpX Bf w.heap.size W (a.setCell ⟨Bf,0,none⟩ d)/\kE Bf w l (pre++[x]) d (fs++[⟨x.1.1,x.1.2,x.2⟩]) (a.setCell ⟨Bf,0,none⟩ d):=by
 have s:=h.lt;have C:=h.fr.size;have A:∀b,v.ownBlock=some b->w.z<=b/\∃cs,W.heap[b]? = some (oc cs 171):=fun b c=>⟨(World.ownsRow.lt h.own b c).1,zU h.own c⟩
 have m:Fr (fun b=>b=Bf) a (a.setCell (aa Bf 0) d):=Fr.of_grown (xN a Bf 0 d) fun k j=>by grind
 have n:Fr (fun b=>v.ownBlock=some b) W a:=Fr.then (Fr.of_below r) (mV t) fun b c=>Or.inl c
 have i:Fr (fun b=>b=Bf∨v.ownBlock=some b) W (a.setCell (aa Bf 0) d):=Fr.then (n.mono fun b c=>Or.inr c) m fun b c=>Or.inl (Or.inl c)
 have y:a.heap[Bf]? = some (oc #[v] 43):=(n.block Bf (by omega) fun e=>by grind).trans h.box;have p:∀{u:Value} {o:List Fx},zW w.z W u o->zW w.z (a.setCell (aa Bf 0) d) u o:=fun {u o} hJ=>yD hJ i fun k j e=>by grind [yN,sT]
 refine ⟨zCh i fun b c e=>?_,i.mono fun b c=>?_,?_⟩
 ·grind
 ·grind
 refine ⟨heap_setCell_same a Bf 0 _ _ _ y,m.row ho1 fun k j e=>?_,fun f g=>?_,?_,?_,Fr.then h.fr i fun b c=>?_,s⟩
 ·have:=(World.ownsRow.lt ho1 k j).1;omega
 ·rcases List.mem_append.1 g with g|g
  ·exact ⟨p (h.val f g).1,(h.val f g).2⟩
  rw [List.mem_singleton] at g;subst g;exact ⟨p q.1,q.2.1⟩
 ·rw [List.map_append,List.map_append,List.filter_append,h.eq]
  congr 1
  simp only [List.map_cons,List.map_nil,List.filter_cons,hs,List.filter_nil,if_true];rfl
 ·rw [List.length_append,List.length_append];have:=h.len
  grind
 grind
theorem zPm {c:Fnd->Bool} {x:Kx} (h:kE Bf w c pre v fs W) (d:Below W.heap.size W W4) (hs:c (zDX x)=false) :
  KeepsFrom w.heap.size W W4/\KpX Bf w.heap.size W W4/\kE Bf w c (pre++[x]) v fs W4:=by
 have a:=h.on d;refine ⟨zCh (P:=fun _=>False) (Fr.of_below d) fun b _ e=>e.elim,Fr.of_below d,a.box,a.own,a.val,?_,?_,a.fr,a.lt⟩
 ·rw [List.map_append,List.filter_append,<-h.eq];simp [hs]
 rw [List.length_append];have:=h.len;omega
end
end
section
open Go.RowKit Go.Lib
section
variable {w:World} {g:Nat} {x:Tm}
def dN (w:World) (g:Nat) (x:Tm):Prop:=w.heap[g]? = some (.cells #[.string x.1,.int .i64 x.2.1,.string x.2.2] 239 (0,0))
theorem dN.cells (h:dN w g x):w.cell? ⟨g,0,none⟩=some (.string x.1)/\w.cell? ⟨g,1,none⟩=some (.int .i64 x.2.1)/\w.cell? ⟨g,2,none⟩=some (.string x.2.2):=by
 rw [Lib.cell_of_heap h,Lib.cell_of_heap h,Lib.cell_of_heap h]
 grind
theorem dN.lt (h:dN w g x):g<w.heap.size:=(Array.getElem?_eq_some_iff.1 h).1
theorem dN.on {a:World} (h:dN w g x) (b:Below w.heap.size w a):dN a g x:=(b.block g h.lt).trans h
theorem zGv (w:World) (x:Tm):dN (w.alloc (.cells #[.string x.1,.int .i64 x.2.1,.string x.2.2] 239)) w.heap.size x:=heap_alloc_new w _
theorem zD7 (s t:ByteArray):Lib.hasPrefix s.data.toList t.data.toList=gQ s t:=by
 unfold gQ;rw [zBB]
 by_cases h:t.size<=s.size
 ·rw [decide_eq_true h,Bool.true_and];rw [Bool.eq_iff_iff,decide_eq_true_iff];have e:(s.extract 0 t.size).data.toList=s.data.toList.take t.size:=by simp
  constructor
  ·intro a;refine zHI ?_;rw [e];have:=List.prefix_iff_eq_take.1 (List.isPrefixOf_iff_prefix.1 a)
   simpa using this.symm
  intro b;refine List.isPrefixOf_iff_prefix.2 ?_
  grind
 rw [decide_eq_false h,Bool.false_and,Bool.eq_false_iff];intro a;have:=(List.isPrefixOf_iff_prefix.1 a).length_le;simp at this;exact h this
def Bt:Type:={ t:ByteArray // t.size<=maxLen }
theorem jV (f:ByteArray->Bool) (k:Nat) (lb:Array Value) (n:∀args w,(callFunc k args).run Tryz.prog w=.ok (.enter k args) w) (p:Option Addr) (i:Nat) (a:List ByteArray) (w:World) (h:nI w p a) (j:zKE a)
  (hk:∀(W:World) (t:ByteArray),Below w.heap.size w W->t.size<=maxLen->Calls Tryz.prog k (#[.string t]++lb) W fun e d=>e=.returned (.bool (f t))/\∃q,d=W.drewN q) :
  Calls Tryz.prog 230 #[.slice p a.length i,.func (.func k) #[] lb] w fun e d=>e=.returned (.bool (a.any f))/\∃q,d=w.drewN q:=by
 rcases h with rfl|⟨b,l,rfl,u⟩
 ·refine (Tryz.slices_ContainsFunc_empty (α:=ByteArray) p i _ w).mono ?_;rintro e d ⟨rfl,rfl⟩;exact ⟨rfl,0,rfl⟩
 have m:=j.1;unfold maxLen at m;obtain ⟨c,r⟩:∃c:List Bt,c.map (·.1)=a:=⟨a.attachWith _ j.2,List.attachWith_map_subtype_val ..⟩;have s:c.length=a.length:=by rw [<-r,List.length_map]
 letI:Inhabited Bt:=⟨⟨⟨#[]⟩,Nat.zero_le _⟩⟩
 refine (Tryz.slices_ContainsFunc (fun t:Bt=>Value.string t.1) (fun t=>f t.1) k lb n b l a.length i c w (fun W x o=>hk W x.1 o x.2) (by omega) (by omega) ?_).mono ?_
 ·grind
 grind
theorem zKl:∀args w,(callFunc 238 args).run Tryz.prog w=.ok (.enter 238 args) w:=enters_of Tryz.func238 (by kernel_rfl) rfl
theorem zK1:∀args w,(callFunc 240 args).run Tryz.prog w=.ok (.enter 240 args) w:=enters_of Tryz.func240 (by kernel_rfl) rfl
theorem zLq:∀args w,(callFunc 242 args).run Tryz.prog w=.ok (.enter 242 args) w:=enters_of Tryz.func242 (by kernel_rfl) rfl
theorem zKD:∀args w,(callFunc 243 args).run Tryz.prog w=.ok (.enter 243 args) w:=enters_of Tryz.func243 (by kernel_rfl) rfl
theorem zK3:∀args w,(callFunc 244 args).run Tryz.prog w=.ok (.enter 244 args) w:=enters_of Tryz.func244 (by kernel_rfl) rfl
theorem zQq (g:Nat) (x:Tm) (t:ByteArray) (W:World) (f:dN W g x) (b:x.2.2.size<=maxLen) (c:t.size<=maxLen) :
  Calls Tryz.prog 238 #[.string t,.pointer (some ⟨g,0,none⟩)] W fun e h=>e=.returned (.bool (nJ x.2.2 t))/\∃q,h=W.drewN q:=by
 obtain ⟨_,_,i⟩:=f.cells;have d:=hid b;have a:=hid c;go_enter Tryz.func238,Tryz.ntmps238;go_wp2_with (go_at_call 239;refine (zKV _ _ _ d.o a.o).mono ?_;rintro e w1 ⟨rfl,n,rfl⟩);go_ret;exact ⟨rfl,n,rfl⟩
theorem zQR (g:Nat) (x:Tm) (t:ByteArray) (W:World) (b:dN W g x) :
  Calls Tryz.prog 240 #[.string t,.pointer (some ⟨g,0,none⟩)] W fun e c=>e=.returned (.bool (gQ t x.2.2))/\∃q,c=W.drewN q:=by
 obtain ⟨_,_,d⟩:=b.cells;have a:=hid (zD7 t x.2.2);go_enter Tryz.func240,Tryz.ntmps240;go_wp2_with (go_at_call 241;refine (Tryz.strings_HasPrefix _ _ _).mono ?_;rintro e w1 ⟨rfl,rfl⟩);go_ret;exact ⟨zI a.o,0,rfl⟩
theorem zQe (g:Nat) (x:Tm) (t:ByteArray) (W:World) (b:dN W g x) :
  Calls Tryz.prog 242 #[.string t,.pointer (some ⟨g,0,none⟩)] W fun e c=>e=.returned (.bool (ltB t x.2.2))/\∃q,c=W.drewN q:=by
 obtain ⟨_,_,d⟩:=b.cells;have a:=hid (zGD (rfl:ltB t x.2.2=_));go_enter Tryz.func242,Tryz.ntmps242;go_wp2_with fail;go_ret;exact ⟨zI a.o,0,rfl⟩
theorem zQx (g:Nat) (x:Tm) (t:ByteArray) (W:World) (b:dN W g x) :
  Calls Tryz.prog 243 #[.string t,.pointer (some ⟨g,0,none⟩)] W fun e d=>e=.returned (.bool (ltB x.2.2 t))/\∃q,d=W.drewN q:=by
 obtain ⟨_,_,f⟩:=b.cells;have a:=hid (zQ2 t x.2.2);have c:=hid (zGD (rfl:ltB t x.2.2=_));go_enter Tryz.func243,Tryz.ntmps243;go_wp2_with fail;go_ret;refine ⟨zI ?_,0,rfl⟩;rw [<-a.o,c.o]
theorem zQF (t:ByteArray) (W:World) :
  Calls Tryz.prog 244 #[.string t] W fun e a=>e=.returned (.bool true)/\∃q,a=W.drewN q:=by
 go_enter Tryz.func244,Tryz.ntmps244
 go_wp2_with fail
 go_ret;exact ⟨rfl,0,rfl⟩
theorem zNq (a:List ByteArray):a.any (fun _=>true)=decide (0<a.length):=by
 cases a<;>simp
theorem zBz (x:Tm) (p:Option Addr) (d:Nat) (a:List ByteArray) (w:World) (h:nI w p a) (q:zKE a) (G:x.2.2.size<=maxLen) :
  Calls Tryz.prog 193 #[.agg #[.string x.1,.int .i64 x.2.1,.string x.2.2],.slice p a.length d] w fun e K=>e=.returned (.bool (zAY x a))/\yC w K:=by
 obtain ⟨W,s⟩:=eE (w.alloc (.cells #[tq x.1,ii x.2.1,tq x.2.2] 239));have l:Bw w W:=by rw [<-s];exact (Below.refl _ _).alloc (Nat.le_refl _) _
 have f:Hid (yC w W):=by rw [<-s];exact (yC.refl _).alloc _
 have m:dN W w.z x:=by rw [<-s];exact zGv w x
 have N:∀(fn:Fn) (first d:Array Value) (w:World),(Instr.makeFunc fn first d).run Tryz.prog w=.ok (.func fn first d) w:=fun _ _ _ _=>rfl
 have y:=hid (jV (nJ x.2.2) 238 #[jp w.z] zKl p d a W (h.kept l) q (fun V t i k=>zQq w.z x t V (m.on i) G k));have A:=hid (jV (fun t=>gQ t x.2.2) 240 #[jp w.z] zK1 p d a W (h.kept l) q (fun V t i k=>zQR w.z x t V (m.on i)));have D:=hid (jV (fun t=>ltB t x.2.2) 242 #[jp w.z] zLq p d a W (h.kept l) q (fun V t i k=>zQe w.z x t V (m.on i)));have C:=hid (jV (fun t=>ltB x.2.2 t) 243 #[jp w.z] zKD p d a W (h.kept l) q (fun V t i k=>zQx w.z x t V (m.on i)));have u:=hid (jV (fun _=>true) 244 #[] zK3 p d a W (h.kept l) q (fun V t i k=>zQF t V));obtain ⟨J,I,E⟩:=m.cells;obtain ⟨r,hr⟩:=eE (zAY x a);rw [hr];have b:=hid hr;obtain ⟨xf,xo,xt⟩:=x;simp only at s J I E y A D C;unfold zAY at b;simp only at b;rw [zNq] at u;obtain ⟨B1,hB1⟩:∃B,a.any (nJ xt)=B:=⟨_,rfl⟩;rw [hB1] at y b;obtain ⟨B2,hB2⟩:∃B,a.any (fun t=>gQ t xt)=B:=⟨_,rfl⟩;rw [hB2] at A b;obtain ⟨B3,hB3⟩:∃B,a.any (fun t=>ltB t xt)=B:=⟨_,rfl⟩;rw [hB3] at D b;obtain ⟨B4,hB4⟩:∃B,a.any (fun t=>ltB xt t)=B:=⟨_,rfl⟩;rw [hB4] at C b;have F:decide (a.length=0) = !decide (0<a.length):=by cases a<;>simp
 rw [F] at b;obtain ⟨v,H⟩:∃B,decide (0<a.length)=B:=⟨_,rfl⟩;rw [H] at u b
 by_cases hr7:1<=xo/\xo<=7
 ·rcases (show xo=1∨xo=2∨xo=3∨xo=4∨xo=5∨xo=6∨xo=7 by omega) with rfl|rfl|rfl|rfl|rfl|rfl|rfl
  ·have c:Hid (B1=r):=by have:=b.o;show B1=r;simpa using this
   go_enter Tryz.func193,Tryz.ntmps193
   go_wp2_with (go_at_call 230;refine y.o.mono ?_;rintro e j ⟨rfl,n,rfl⟩)
   go_ret;refine ⟨zI ?_,f.o.drewN n⟩;rw [<-c.o]
  ·have c:Hid ((!B1)=r):=by have:=b.o;show (!B1)=r;simpa using this
   go_enter Tryz.func193,Tryz.ntmps193
   go_wp2_with (go_at_call 230;refine y.o.mono ?_;rintro e j ⟨rfl,n,rfl⟩)
   go_ret;refine ⟨zI ?_,f.o.drewN n⟩;rw [<-c.o]
  ·have c:Hid (B2=r):=by have:=b.o;show B2=r;simpa using this
   go_enter Tryz.func193,Tryz.ntmps193
   go_wp2_with (go_at_call 230;refine A.o.mono ?_;rintro e j ⟨rfl,n,rfl⟩)
   go_ret;refine ⟨zI ?_,f.o.drewN n⟩;rw [<-c.o]
  ·have c:Hid (B3=r):=by have:=b.o;show B3=r;simpa using this
   go_enter Tryz.func193,Tryz.ntmps193
   go_wp2_with (go_at_call 230;refine D.o.mono ?_;rintro e j ⟨rfl,n,rfl⟩)
   go_ret;refine ⟨zI ?_,f.o.drewN n⟩;rw [<-c.o]
  ·have c:Hid (B4=r):=by have:=b.o;show B4=r;simpa using this
   go_enter Tryz.func193,Tryz.ntmps193
   go_wp2_with (go_at_call 230;refine C.o.mono ?_;rintro e j ⟨rfl,n,rfl⟩)
   go_ret;refine ⟨zI ?_,f.o.drewN n⟩;rw [<-c.o]
  ·have c:Hid (v=r):=by have:=b.o;show v=r;simpa using this
   go_enter Tryz.func193,Tryz.ntmps193
   go_wp2_with (go_at_call 230;refine u.o.mono ?_;rintro e j ⟨rfl,n,rfl⟩)
   go_ret;refine ⟨zI ?_,f.o.drewN n⟩;rw [<-c.o]
  have c:Hid ((!v)=r):=by have:=b.o;show (!v)=r;simpa using this
  go_enter Tryz.func193,Tryz.ntmps193
  go_wp2_with (go_at_call 230;refine u.o.mono ?_;rintro e j ⟨rfl,n,rfl⟩)
  go_ret;refine ⟨zI ?_,f.o.drewN n⟩;rw [<-c.o]
 have c:Hid (false=r):=by
  have:=b.o;rw [if_neg (by omega),if_neg (by omega),if_neg (by omega),if_neg (by omega),if_neg (by omega),if_neg (by omega),if_neg (by omega)] at this;exact this
 have R:(xo==1)=false:=by simp;omega
 have M:(xo==2)=false:=by simp;omega
 have O:(xo==3)=false:=by simp;omega
 have P:(xo==4)=false:=by simp;omega
 have S:(xo==5)=false:=by simp;omega
 have L:(xo==6)=false:=by simp;omega
 have Q:(xo==7)=false:=by simp;omega
 go_enter Tryz.func193,Tryz.ntmps193
 go_wp2_with fail
 go_ret;exact ⟨zI c.o,f.o⟩
theorem mZ (u v:Value) (p:List Tm) (d:List Fx) (w:World) (hu:KM.Is w u p) (T:qQ p) (hv:wJ w v d) (hf:xB d) (ae:∀x∈d,x.txt.length * 16<=140737488355328) :
  Calls Tryz.prog 140 #[u,v] w fun e a=>e=.returned (.bool (zP p (d.map Fx.fld)))/\Below w.heap.size w a:=by
 obtain ⟨q,am,rfl,hd⟩:=hu;have hl:=T.1;unfold maxLen at hl;have HD:=hid hd;have HV:=hid hv;have Z:=hid hf;have HP:=hid T;have ai:=hid ae;obtain ⟨r,hr⟩:=eE (zP p (d.map Fx.fld));rw [hr];have HR:=hid hr;go_enter Tryz.func140,Tryz.ntmps140;go_wp2_with fail
 go_loopg [9] p.length (fun g vi wr=>∃i:Nat,vi=ii i/\i<=p.length/\p.length-i<=g/\Bw w wr/\Hid (∀j (h:j<p.length),j<i->mU p[j] (d.map Fx.fld)=true))
 case atStart=>exact ⟨0,rfl,by omega,by omega,Below.refl _ _,fun j _ h=>by omega⟩
 obtain ⟨i,rfl,hi,hg,C,HJ⟩:=hrel
 by_cases hlt:i<p.length
 ·have aj:(i:Int)<(p.length:Int):=by omega
  have al:(0:Int)<=i:=by omega
  obtain ⟨b,O,rfl,ak⟩:∃b O,q=some (aa b O)/\KM.At w b O p:=by
   rcases HD.o with h|h
   ·grind
   exact h
  obtain ⟨c0,c1,U⟩:=zMO (zC.at_kept ak C) i hlt;have E:=HP.o.2 _ (List.getElem_mem hlt)
  have ad:mU p[i] (d.map Fx.fld)=false->r=false:=fun h=>by
   rw [<-HR.o]
   grind [zP]
  have V:mU p[i] (d.map Fx.fld)=true->∀j (h:j<p.length),j<i+1->mU p[j] (d.map Fx.fld)=true:=fun e j h hj=>by
   by_cases ej:j=i
   ·grind
   exact HJ.o j h (by omega)
  obtain ⟨x,I⟩:=eE (p[i]);rw [I] at c0 c1 U E ad V;have ah:=hid ad;have ag:=hid V;have HB:=hid C;have af:=C.size;obtain ⟨xf,xo,xt⟩:=x;simp only at c0 c1 U E;go_wp2_with fail;obtain ⟨F,hF⟩:=eE wr.heap.size;obtain ⟨W,hW⟩:=eE (wr.alloc (.cells #[tq xf,ii xo,tq xt] 239));have L:dN W F (xf,xo,xt):=by rw [<-hW,<-hF];exact zGv wr (xf,xo,xt)
  have X:Bw w W:=by rw [<-hW];exact HB.o.alloc af _
  have s:=hid X;have G:=hid (zLt v xf d W.drew (HV.o.kept X.drew) Z.o ai.o);have an:F<W.heap.size:=L.lt;have Y:W.drew.cell? (aa F 0)=some (tq xf)/\W.drew.cell? (aa F 1)=some (ii xo)/\W.drew.cell? (aa F 2)=some (tq xt):=L.cells;have D:Hid (∀a:World,Below W.drew.heap.size W.drew a->a.cell? (aa F 0)=some (tq xf)/\a.cell? (aa F 1)=some (ii xo)/\a.cell? (aa F 2)=some (tq xt)):=fun a h=>(dN.on (w:=W.drew) L h).cells
  have N:Hid (zKE (tM (d.map Fx.fld) xf)):=by
   show zKE _
   unfold tM
   cases hfd:(d.map Fx.fld).find? (fun f=>decide (f.1=xf)) with
   | none=>exact ⟨Nat.zero_le _,fun t ht=>by simp at ht⟩
   | some f =>
   obtain ⟨y,hy,rfl⟩:=List.mem_map.1 (List.mem_of_find?_eq_some hfd);exact (Z.o.2 y hy).2
  obtain ⟨m,ac⟩:=eE (tM (d.map Fx.fld) xf);rw [ac] at G N;have ab:Hid (mU (xf,xo,xt) (d.map Fx.fld)=zAY (xf,xo,xt) m):=by show _=_;unfold mU;rw [ac]
  rw [hF,hW]
  cases hB:zAY (xf,xo,xt) m with
  | true =>
   have P:Hid (mU (xf,xo,xt) (d.map Fx.fld)=true):=by show _=_;rw [ab.o,hB]
   have S:Hid (∀(c:World) l n,nI c l m->CC 193 #[.agg #[tq xf,ii xo,tq xt],sc l m.length n] c fun e a=>e=.returned (.bool true)/\yC c a):=fun c l n h=>by
    have:=zBz (xf,xo,xt) l n m c h N.o E.2.1
    grind
   go_region_held3 (fun a=>a.cell? (aa F 0)=some (tq xf)/\a.cell? (aa F 1)=some (ii xo)/\a.cell? (aa F 2)=some (tq xt))
    (first|exact Y|exact M|exact Q)
    (first
     | (go_at_call 194;refine G.o.mono ?_;rintro e K ⟨⟨sv,rfl,z⟩,k⟩;obtain ⟨pc,capc,rfl⟩:=pB z;have M:=D.out K k;have J:=tJ.txtAt z)
     | (go_at_call 193;refine (S.o _ _ _ J).mono ?_;rintro e A ⟨rfl,B⟩;have Q:=D.out A (k.trans (B.below.mono k.size))))
   have R:Bw w A:=(s.o.drew.trans (k.mono (by simpa using s.o.size))).trans (B.below.mono (Nat.le_trans (by simpa using s.o.size) k.size));have H:=hid R;go_wp2_with fail;go_roundg (p.length-(i+1))
   case measure=>omega
   exact ⟨i+1,by go_num,by omega,by omega,H.o,ag.o P.o⟩
  | false =>
  have P:Hid (mU (xf,xo,xt) (d.map Fx.fld)=false):=by show _=_;rw [ab.o,hB]
  have S:Hid (∀(c:World) l n,nI c l m->CC 193 #[.agg #[tq xf,ii xo,tq xt],sc l m.length n] c fun e a=>e=.returned (.bool false)/\yC c a):=fun c l n h=>by
   have:=zBz (xf,xo,xt) l n m c h N.o E.2.1
   grind
  go_region_held3 (fun a=>a.cell? (aa F 0)=some (tq xf)/\a.cell? (aa F 1)=some (ii xo)/\a.cell? (aa F 2)=some (tq xt))
   (first|exact Y|exact M|exact Q)
   (first
    | (go_at_call 194;refine G.o.mono ?_;rintro e K ⟨⟨sv,rfl,z⟩,k⟩;obtain ⟨pc,capc,rfl⟩:=pB z;have M:=D.out K k;have J:=tJ.txtAt z)
    | (go_at_call 193;refine (S.o _ _ _ J).mono ?_;rintro e A ⟨rfl,B⟩;have Q:=D.out A (k.trans (B.below.mono k.size))))
  have R:Bw w A:=(s.o.drew.trans (k.mono (by simpa using s.o.size))).trans (B.below.mono (Nat.le_trans (by simpa using s.o.size) k.size));have H:=hid R;go_wp2_with fail;go_ret;exact ⟨zI (ah.o P.o).symm,H.o⟩
 have aj:¬ (i:Int)<(p.length:Int):=by omega
 have H0:Hid (r=true):=by
  show _=_
  rw [<-HR.o];unfold zP;rw [List.all_eq_true];intro x I;obtain ⟨j,hj,rfl⟩:=List.mem_iff_getElem.1 I;exact HJ.o j hj (by omega)
 go_wp2_with fail
 go_ret;exact ⟨zI H0.o.symm,C⟩
end
end
section
open Go.RowKit
theorem nL {F:Fence} {n:Nat} {P:Program} (w:World) {ops:Array Oper} {rest:List Oper} {o:Oper} {a:Act} {Q:Exit->Act->World->Prop}
  (hg:o.guard=none) (s x:Operand) (t:TypeId) (hop:o.op=Op.call { callee:=Callee.builtin Builtin.append,args:=#[s,x],argTypes:=#[t,t] })
  (base:Nat) (e:TypeId) (i:TypeInfo) (z:Value) (size bytes:Nat) (h1:P.underlying t=some (.slice e)) (h2:P.info? e=some i) (h3:i.zero=some z) (h4:i.size=size) (h5:i.bytes=bytes) (h6:z.cells.size=size) (h7:0<size)
  (v:Value) (k:Nat) (xs:List Value) (hs:a.eval s=v) (hown:w.ownsRow base e size v k xs) (ad:Addr) (m c:Nat) (news:List Value) (hx:a.eval x=.slice (some ad) m c) (hn:news.length=m * size)
  (hc:∀j u,news[j]? = some u->w.cell? (ad.add j)=some u) (h1c:∀u∈news,u.oneCell'=true) (b1:k+m<=maxLen) (b2:((k+m)+(k+m) / 4+192) * bytes<=281474976710656) (b3:base<=w.heap.size)
  (hK:∀b d,d.ownsRow base e size b (k+m) (xs++news)->w.grownBy d v.ownBlock->(b=.slice none 0 0↔v=.slice none 0 0/\m=0)->wpListIn F n P ops Q rest (a.put o.dst b) d) :
  wpListIn F n P ops Q (o::rest) a w:=by
 refine wpListIn_plain hg fun K g=>?_
 obtain ⟨b,d,p,h,f,l⟩:=run_append_own_wide (P:=P) w base t o.type e i z size bytes h1 h2 h3 h4 h5 h6 h7 v k xs hown ad m c news hn hc h1c b1 b2 b3;unfold Oper.wpIn;refine ⟨?_,?_⟩
 ·grind [Oper.about,resolve,Target.leads,Sem.run_pure]
 rw [Oper.semAt_plain F _ _ (by grind)];simp [execOp,hop,resolve,invoke,builtin,hs,hx,p,Result.andThen];exact g _ _ (hK b d h f l)
end
section
open Go.RowKit
section
variable {D:List zQ} {n0 g m n:Nat} {W w:World} {G:Ky→Cm}
attribute [local go_sem] Oper.semAt_some
theorem Tryz.infoFd:(Tryz.prog.info? 171).map (fun i=>(i.zero,i.size,i.bytes))=some (some (.agg #[.string ⟨#[]⟩,.string ⟨#[]⟩,.int .i64 0,.int .u64 0,.int .i64 0,.bool false,.slice none 0 0]),7,88):=by kernel_rfl
theorem zJv (h:OkD D):D.length<=zT D:=by
 induction D with
 | nil=>grind
 | cons r d ih =>
 have b:=ih h.tail;have a:r.2.length≠0:=fun e=>(h.ok r List.mem_cons_self).2 (List.length_eq_zero_iff.1 e)
 grind [zT]
theorem zDf (h:OkD D) (typ:ByteArray):(tQ D typ).length<=zT D:=by
 have a:(tQ D typ).length<=(D.map Prod.fst).length:=List.length_filter_le _ _
 grind [zJv]
theorem zDx (h:xE n0 W g m n G D) {ks:List Ky} (b:∀k∈ks,k∈D.map Prod.fst):∀k∈ks,yM k:=fun k a=>key_fit (h.key k ((vG h.ok k).1 (b k a)))
theorem kZ {α β:Type} {f g:α->Option β}:∀{l:List α},(∀x∈l,f x=g x)->l.filterMap f=l.filterMap g
 | [],_=>rfl
 | x::l,h=>by
  rw [List.filterMap_cons,List.filterMap_cons,h x List.mem_cons_self,kZ fun y a=>h y (List.mem_cons_of_mem _ a)]
theorem zLa (h:OkD D) (t:Int):tH D t (D.map Prod.fst)=pN D t:=by
 unfold tH pN;rw [List.filterMap_map];refine kZ fun r a=>?_
 grind [gK]
theorem zK9 {t:Int} {k:Ky} {x:Fnd} (h:tT t (k,ofD D k)=some x):x.1=k:=by grind [tT,atV]
theorem zBE (D:List zQ) (t:Int) (q:Ky->Bool):∀ks:List Ky,tH D t (ks.filter q)=(tH D t ks).filter fun x=>q x.1
 | []=>rfl
 | k::ks=>by
  have a:=zBE D t q ks;unfold tH at a ⊢;rw [List.filter_cons,List.filterMap_cons]
  cases ha:tT t (k,ofD D k) with
  | none=>grind
  | some x=>grind [zK9]
theorem zLY (h:OkD D) (t:Int) (typ:ByteArray):tH D t (tQ D typ)=(pN D t).filter fun x=>decide (x.1.1=typ):=by grind [tQ,zBE,zLa]
theorem zPf (h:OkD D) (t:Int) (typ:ByteArray) (P:List Fld->Bool):(tH D t (tQ D typ)).filter (fun x=>P x.2.val)=xG D typ t P:=by
 rw [zLY h,List.filter_filter]
 grind [xG]
theorem zNU {B:Nat} {u:Value} {a:List Ky} (h:KK.Own B w u a):∃p e,u=.slice p a.length e/\∀(c:World) (d:Nat),Below w.heap.size w c->d<B->a=[]∨∃b off,p=some ⟨b,off,none⟩/\KK.At c b off a/\b≠d:=by
 rcases h.2 with ⟨rfl,j⟩|⟨g,e,k,rfl,_⟩
 ·grind
 refine ⟨_,e,rfl,fun c d f i=>Or.inr ⟨g,0,rfl,zC.at_kept (zC.own_at h) f,?_⟩⟩;omega
def AxX (Bf:Nat) (w:World) (sel:Fnd->Bool) (N:Nat) (A:Nat->Nat->Kx->Act) (pre:List Kx) (x:Kx) (a':Act) (W:World):Prop :=
 ∃Bx By v fs,a'=A Bx By x/\W.heap[Bx]? = some (.cells #[.string x.1.1,.string x.1.2] 36 (0,0))/\wI W By x.2/\kE Bf w sel pre v fs W/\GdX w.heap.size N pre x W
theorem AxX.own_from (j:Nat) (w:World) (l:Fnd->Bool) (N:Nat) (A:Nat->Nat->Kx->Act) (q:List Kx) (x:Kx) (o:Act):OwnFrom w.heap.size (fun (_:Unit) W=>AxX j w l N A q x o W):=by
 rintro _ W t u ⟨c,i,v,f,d,h,p,k,s⟩ b a;exact ⟨c,i,v,f,d,zCc h b fun r e=>(a r e).2,zCc p b fun r e=>(a r e).2,k.nc b a,s.nc b fun r e=>(a r e).2⟩
theorem AxX.lay {c:Nat} {i:Fnd->Bool} {N:Nat} {A:Nat->Nat->Kx->Act} {d:List Kx} {x:Kx} {v:Value} {f:List Fd} (h:kE c w i d v f W) (j:GdX w.heap.size N d x W) :
  KeepsFrom w.heap.size W ((W.alloc (.cells #[.string x.1.1,.string x.1.2] 36)).alloc (.cells (zF x.2).toArray 42))/\KpX c w.heap.size W ((W.alloc (.cells #[.string x.1.1,.string x.1.2] 36)).alloc (.cells (zF x.2).toArray 42)) /\
   AxX c w i N A d x (A W.heap.size (W.heap.size+1) x) ((W.alloc (.cells #[.string x.1.1,.string x.1.2] 36)).alloc (.cells (zF x.2).toArray 42)):=by
 have a:Bw W ((W.alloc (.cells #[tq x.1.1,tq x.1.2] 36)).alloc (.cells (zF x.2).toArray 42)):=((Below.refl _ _).alloc (Nat.le_refl _) _).alloc (by simp) _;refine ⟨zCh (P:=fun _=>False) (Fr.of_below a) fun b _ e=>e.elim,Fr.of_below a,_,_,v,f,rfl,?_,?_,h.on a,j.nc (grown_of a) fun r e=>by cases e⟩
 ·grind [Below.heap_alloc,heap_alloc_new]
 have:=heap_alloc_new (W.alloc (.cells #[tq x.1.1,tq x.1.2] 36)) (.cells (zF x.2).toArray 42)
 simpa [wI] using this
theorem zLK {p:World} (h:xE n0 p g m n G D) (hn:n<=1760000000000) (typ:ByteArray) (t:Int) (q:Option Addr) (s:Nat) (a:List Tm) (hp:KM.Is p (.slice q a.length s) a) (bd:qQ a) :
  Calls Tryz.prog 85 #[.pointer (some ⟨g,0,none⟩),.string typ,.int .u64 t,.slice q a.length s] p fun e y=>zCV p (xG D typ t (zP a)) e y:=by
 obtain ⟨N,T⟩:=eE p.heap.size;obtain ⟨W2,hW2⟩:=eE ((p.alloc (.cells #[sc q a.length s] 38)).alloc (.cells #[sc none 0 0] 43));have ax:Below N p W2:=by rw [<-hW2,<-T];exact ((Below.refl _ _).alloc (Nat.le_refl _) _).alloc (by simp) _
 have cc:W2.heap.size=N+2:=by rw [<-hW2,<-T];simp
 have ac:W2.heap[N]? = some (oc #[sc q a.length s] 38):=by
  rw [<-hW2,<-T,Below.heap_alloc _ _ _ (by simp)];exact heap_alloc_new p _
 have ap:W2.heap[N+1]? = some (oc #[sc none 0 0] 43):=by
  rw [<-hW2,<-T];have:=heap_alloc_new (p.alloc (.cells #[sc q a.length s] 38)) (.cells #[sc none 0 0] 43);simpa using this
 have ak:xE n0 W2 g m n G D:=h.on (by grind);have ai:=hid (zEK ak (by omega) typ);have bu:=zDf h.ok typ;have ca:=h.few;have al:=hid (zDx h (ks:=tQ D typ) fun k hk=>(List.mem_filter.1 hk).1);have av:=hid (zPf h.ok t typ (zP a));have bl:Hid (∀b,nT g m G D b->b<N):=fun b E=>by rw [<-T];exact (h.blk b E).2
 have bf:=hid ak;have bs:=hid ax;have HP:=hid hp;have bq:=hid bd;obtain ⟨B,aq⟩:=eE (tQ D typ);rw [aq] at ai al av bu;clear h ak ax hp bd aq;refine (callsIn_wide (n:=3)).1 ?_;refine callsIn_of_wp_marks Tryz.func85 rfl trivial ?_ rfl;simp only [Tryz.ntmps85,List.size_toArray,List.length_cons,List.length_nil,Nat.reduceAdd,Nat.reduceSub,Array.replicate_succ,Array.replicate_zero,List.push_toArray,List.append_toArray,List.nil_append,List.cons_append]
 gi_wp2
 refine ⟨trivial,?_⟩
 gi_at_call 139
 refine (callsIn_wide.2 ai.o).mono ?_;rintro e L ⟨u,rfl,au,ao⟩;have bx:=ao.size;obtain ⟨kp,kc,rfl,hrow⟩:=zNU au;have bb:=hid hrow;have bc:=hid ao;clear hrow au ao ai
 gi_wp2
 refine ⟨trivial,?_⟩
 gi_at_call 138
 refine (callsIn_wide.2 (zLw L g kp B.length kc t)).mono ?_;rintro e c ⟨rfl,O⟩;obtain ⟨M,hM⟩:=eE L.heap.size;have ay:Below M L c:=by rw [O,<-hM];exact (((Below.refl _ _).alloc (Nat.le_refl _) _).alloc (by simp) _).alloc (by simp;omega) _
 have cd:c.heap.size=M+3:=by rw [O,<-hM];simp
 have x0:c.heap[M]? = some (oc #[jp g] 86):=by
  rw [O,<-hM,Below.heap_alloc _ _ _ (by simp;omega),Below.heap_alloc _ _ _ (by simp)];exact heap_alloc_new L _
 have x1:c.heap[M+1]? = some (oc #[sc kp B.length kc] 46):=by
  rw [O,<-hM,Below.heap_alloc _ _ _ (by simp)];have:=heap_alloc_new (L.alloc (.cells #[jp g] 86)) (.cells #[sc kp B.length kc] 46);simpa using this
 have x2:c.heap[M+2]? = some (oc #[iu t] 24):=by
  rw [O,<-hM];have:=heap_alloc_new ((L.alloc (.cells #[jp g] 86)).alloc (.cells #[sc kp B.length kc] 46)) (.cells #[iu t] 24);simpa using this
 have ab:Bw W2 c:=zA bc.o bx (by grind);have be:Below N p c:=bs.o.trans (ab.mono (by omega))
 have bj:Hid (zL5 n0 c g m n G D B t kp kc M (M+1) (M+2) (N+1)) :=
  ⟨bf.o.on ab,x0,x1,x2,bb.o c (N+1) (by rw [hM];exact ay) (by omega),al.o,by omega,by omega,by omega,by omega,fun E=>by have:=bl.o _ E;omega⟩
 have bw:Hid (kE (N+1) c (fun x=>zP a x.2.val) [] (sc none 0 0) [] c) :=
  ⟨(ab.block (N+1) (by omega)).trans ap,KFd.own_nil _ _,fun f hf=>by simp at hf,rfl,Nat.le_refl _,Fr.refl _ _,by omega⟩
 have bt:=hid ((ab.block N (by omega)).trans ac);have aw:=hid be;clear O ay x0 x1 x2 ab be ac ap bc bb al bf;have bv:=enters_of (P:=Tryz.prog) Tryz.func192 (by kernel_rfl) rfl;rw [hM]
 gi_wp2
 refine pL (w:=c) rfl (by decide) (gf:=192) (lb:=#[jp (M+1),jp M,jp (M+2)]) rfl trivial bv
  (zNh 2 (by decide) bj.o) gM (fun W l o' hl _=>zPj W l o' hl) (fun _=>rfl) (fun Y W=>∃v i,kE (N+1) c (fun x=>zP a x.2.val) Y v i W) (fun _ _ _=>False) (kE.own_from _ _ _) (fun _ _ _ _ _ h _ _=>h.elim) ⟨_,_,bw.o⟩
  (AxX (N+1) c (fun x=>zP a x.2.val) B.length (fun F I x=>{ tmps:=#[jp g,tq typ,iu t,sc q a.length s,undef,undef,undef,jp N,sc none 0 0,jp (N+1),jp F,jp I,jp g,jp g,tq typ,sc kp B.length kc,iu t,
   .func (.func 192) #[] #[jp (M+1),jp M,jp (M+2)],.agg #[tq x.1.1,tq x.1.2],.agg (zF x.2).toArray,undef,undef,undef,undef,undef,undef,undef,undef,undef,undef,undef],defers:=[] }))
  (fun Y x a'=>AxX.own_from _ _ _ _ _ Y x a') ?assign ?body ?done ?stop
 case assign =>
  rintro l Y ⟨⟨H,C⟩,x⟩ W K bg ⟨v,i,d⟩ z J
  obtain ⟨k1,k2,k3⟩:=AxX.lay (A:=fun F I (x:Kx)=>{ tmps:=#[jp g,tq typ,iu t,sc q a.length s,undef,undef,undef,jp N,sc none 0 0,jp (N+1),jp F,jp I,jp g,jp g,tq typ,sc kp B.length kc,iu t,
   .func (.func 192) #[] #[jp (M+1),jp M,jp (M+2)],.agg #[tq x.1.1,tq x.1.2],.agg (zF x.2).toArray,undef,undef,undef,undef,undef,undef,undef,undef,undef,undef,undef],defers:=[] }) d z
  have HK:=hid (J _ _ k1 k2 k3);obtain ⟨X,Q,xt,V,xp,xc,Z⟩:=x;simp only [zF,Vx.sl,zJi] at HK ⊢;clear J k1 k2 k3 d z
  gi_wp2
  exact HK.o
 case body =>
  rintro l Y ⟨⟨H,C⟩,x⟩ a' W bg ⟨F,I,v,i,rfl,aj,af,d,z⟩;obtain ⟨i0,hi0,hz0,hz1,hz2⟩:=info_parts Tryz.infoFd;have ae:=d.fr;have bz:=ae.size;have bi:Below N p W:=aw.o.trans (ae.below (N:=N) (by omega) fun k hk=>by omega);have ac:W.heap[N]? = some (oc #[sc q a.length s] 38):=(ae.block N (by omega) (by omega)).trans bt.o;obtain ⟨hfit,hcopy⟩:=xF z.2.1;have HM:=hid (mZ (sc q a.length s) x.sl a x.o W (zC.is_kept HP.o (by grind)) bq.o z.1.1.is hfit hcopy.2);have am:Hid (zP a (zDX ((H,C),x)).2.val=zP a (x.o.map Fx.fld)):=rfl;have ce:=d.len;have cb:=z.2.2.1;obtain ⟨vp,vc,rfl⟩:=zC.own_shape d.own;have c0:W.cell? (aa N 0)=some (sc q a.length s):=cz ac;obtain ⟨y0,y1,y2,y3,y4⟩:=wI.cells af
  have KB:Hid (∀y,Bw W y->y.cell? (aa (N+1) 0)=some (sc vp i.length vc)/\y.frozen? (aa (N+1) 0)=false/\y.cell? (aa F 0)=some (tq H)/\y.cell? (aa F 1)=some (tq C)/\wI y I x):=fun y E=>by
   have h1:=(E.block (N+1) (by omega)).trans d.box;have h2:=(E.block F (gA aj).1).trans aj;exact ⟨by rw [Lib.cell_of_heap h1];rfl,Lib.frozen_of_heap h1 0,by rw [Lib.cell_of_heap h2];rfl,by rw [Lib.cell_of_heap h2];rfl,(E.block I (gA af).1).trans af⟩
  have HF:=hid d;have HG:=hid z;have HI:=hid hi0;obtain ⟨bm,ba⟩:=eE (zP a (x.o.map Fx.fld));rw [ba] at HM am;clear ae bi ac hfit hcopy d z aj hi0 ba;obtain ⟨X,Q,xt,V,xp,xc,Z⟩:=x;simp only [zF,Vx.sl] at *;clear af
  gi_wp2
  refine ⟨trivial,?_⟩
  gi_at_call 140
  refine (CallsIn.inRound l (callsIn_wide.2 HM.o)).mono ?_;rintro e U ⟨rfl,ad⟩;have bn:=ad.size;obtain ⟨z0,z1,z2,z3,z4⟩:=KB.out U ad;obtain ⟨q0,q1,q2,q3,q4⟩:=z4.cells;have ag:=hid ad;clear ad z4 y0 y1 y2 y3 y4 c0
  cases bm with
  | false =>
   gi_wp2
   obtain ⟨r1,r2,r3⟩:=zPm (x:=((H,C),⟨X,Q,xt,V,xp,xc,Z⟩)) HF.o ag.o am.o;exact ⟨r1,r2,_,_,r3⟩
  | true =>
  have ar:Hid (KFd.Own c.heap.size U (sc vp i.length vc) i):=zC.own_on HF.o.own ag.o
  have bp:Hid (∀o (R:World),(U.alloc o).grownBy R (Value.slice vp i.length vc).ownBlock->R.cell? (aa (N+1) 0)=some (sc vp i.length vc)/\R.frozen? (aa (N+1) 0)=false):=fun o R hg=>by
   have h1:R.heap[N+1]? = some (oc #[sc vp i.length vc] 43):=(hg.block (N+1) (by simp;omega) fun e=>by have:=(World.ownsRow.lt ar.o _ e.symm).1;omega).trans ((Below.heap_alloc _ _ _ (by omega)).trans ((ag.o.block (N+1) (by omega)).trans HF.o.box));exact ⟨by rw [Lib.cell_of_heap h1];rfl,Lib.frozen_of_heap h1 0⟩
  gi_wp2_with (first
   | (gi_at_builtin;refine nL _ rfl _ _ 43 rfl c.heap.size 171 i0 (.agg #[tq ⟨#[]⟩,tq ⟨#[]⟩,ii 0,iu 0,ii 0,.bool false,sc none 0 0]) 7 88 Tryz.underlying43 HI.o hz0 hz1 hz2 rfl (by decide) _ _ _ rfl (World.ownsRow.alloc ar.o _) _ 1 1 [tq H,tq C,ii X,iu Q,ii xt,.bool V,sc xp Z.length xc] rfl rfl (fun j u hj=>KFd.newsN U ⟨H,C,⟨X,Q,xt,V,xp,xc,Z⟩⟩ _ (by simp) j u hj) (by intro u hu;simp at hu;rcases hu with rfl|rfl|rfl|rfl|rfl|rfl|rfl<;>rfl) (by unfold maxLen;omega) (by omega) (by simp;omega) ?_;intro v6 R ah an bo;obtain ⟨g6,c6,rfl⟩:=ownsRow_succ ah;obtain ⟨t0,t1⟩:=bp.out _ _ an;have bh:=hid ah;have br:=hid an;clear ah an bo))
  obtain ⟨r1,r2,r3⟩:=zOk (x:=((H,C),⟨X,Q,xt,V,xp,xc,Z⟩)) HF.o HG.o (zA ag.o bn ((Below.refl _ U).alloc (Nat.le_refl _) _)) br.o (zC.own_snoc bh.o rfl rfl) am.o;exact ⟨r1,r2,_,_,r3⟩
 case done =>
  rintro Q W hS ⟨v,i,d⟩ J;obtain ⟨vp,vc,rfl⟩:=zC.own_shape d.own;have c0:W.cell? (aa (N+1) 0)=some (sc vp i.length vc):=by rw [Lib.cell_of_heap d.box];rfl
  have az:W.grownBy (W.putObj c.heap.size (.deferred none)) (some c.heap.size):=grownBy_putObj' W _ _;have S:=d.nc az fun r e=>by injection e with e;rw [<-e];exact ⟨Nat.le_refl _,_,J,rfl⟩
  have bk:Below N p (W.putObj c.heap.size (.deferred none)):=aw.o.trans (S.fr.below (N:=N) (by omega) fun k hk=>by omega)
  have HP:Hid (zCV p (xG D typ t (zP a)) (.returned (sc vp i.length vc)) (W.putObj c.heap.size (.deferred none))):=by
   refine ⟨_,i,rfl,?_,fun f hf=>⟨?_,(S.val f hf).2⟩,?_,by grind⟩
   ·exact zC.own_weak S.own (by omega)
   ·exact zJ (S.val f hf).1 (by omega)
   rw [S.eq,hS];exact av.o
  have HK:=hid J;clear d S az bk J
  gi_wp2
  refine ⟨by simp,.inl ⟨_,_,rfl,run_takeDeferred HK.o,?_⟩⟩;exact ⟨sc vp i.length vc,by simp [results,Tryz.results85,go_sem],HP.o⟩
 grind
end
end
end Go.Proofs.YtkhljboeffhciaaGreat
namespace Go.Proofs
open Go.Shelf
def Tryz.sortFnd_ren:Go.Shelf.Ren:=⟨fun|6=>198|15=>209|14=>246|28=>258|29=>259|20=>236|21=>283|22=>284|23=>285|24=>286|25=>287|26=>288|27=>289|46=>304|47=>293|48=>294|49=>305|50=>306|57=>311|n=>n,fun|22=>43|24=>171|25=>223|3=>3|39=>294|0=>0|53=>326|55=>24|4=>4|46=>320|45=>319|50=>304|5=>5|9=>9|66=>345|70=>348|76=>357|77=>358|n=>n,fun|n=>n⟩
theorem Tryz.sortFnd:Go.Proofs.SlLaysF0.n6 Tryz.prog Tryz.sortFnd_ren:={
 mixed:=by kernel_rfl
 f6:=⟨Tryz.f198.name,by decide,Tryz.func198.trans (congrArg some (by kernel_rfl))⟩
 f14:=⟨Tryz.f246.name,by decide,Tryz.func246.trans (congrArg some (by kernel_rfl))⟩
 f15:=Tryz.func209.trans (congrArg some (by kernel_rfl))
 f20:=⟨Tryz.f236.name,by decide,Tryz.func236.trans (congrArg some (by kernel_rfl))⟩
 f21:=⟨Tryz.f283.name,by decide,Tryz.func283.trans (congrArg some (by kernel_rfl))⟩
 f22:=⟨Tryz.f284.name,by decide,Tryz.func284.trans (congrArg some (by kernel_rfl))⟩
 f23:=⟨Tryz.f285.name,by decide,Tryz.func285.trans (congrArg some (by kernel_rfl))⟩
 f24:=⟨Tryz.f286.name,by decide,Tryz.func286.trans (congrArg some (by kernel_rfl))⟩
 f25:=⟨Tryz.f287.name,by decide,Tryz.func287.trans (congrArg some (by kernel_rfl))⟩
 f26:=⟨Tryz.f288.name,by decide,Tryz.func288.trans (congrArg some (by kernel_rfl))⟩
 f27:=⟨Tryz.f289.name,by decide,Tryz.func289.trans (congrArg some (by kernel_rfl))⟩
 f28:=Tryz.func258.trans (congrArg some (by kernel_rfl))
 f29:=Tryz.func259.trans (congrArg some (by kernel_rfl))
 f46:=⟨Tryz.f304.name,by decide,Tryz.func304.trans (congrArg some (by kernel_rfl))⟩
 f47:=Tryz.func293.trans (congrArg some (by kernel_rfl))
 f48:=Tryz.func294.trans (congrArg some (by kernel_rfl))
 f49:=⟨Tryz.f305.name,by decide,Tryz.func305.trans (congrArg some (by kernel_rfl))⟩
 f50:=⟨Tryz.f306.name,by decide,Tryz.func306.trans (congrArg some (by kernel_rfl))⟩
 f57:=⟨Tryz.f311.name,by decide,Tryz.func311.trans (congrArg some (by kernel_rfl))⟩
 t0:=Tryz.underlying0
 a0:=Tryz.isAgg0
 z0:=Tryz.sizeOf0
 v0:=Tryz.zeroValue0
 t3:=Tryz.underlying3
 a3:=Tryz.isAgg3
 z3:=Tryz.sizeOf3
 v3:=Tryz.zeroValue3
 t4:=Tryz.underlying4
 a4:=Tryz.isAgg4
 z4:=Tryz.sizeOf4
 v4:=Tryz.zeroValue4
 t5:=Tryz.underlying5
 a5:=Tryz.isAgg5
 z5:=Tryz.sizeOf5
 v5:=Tryz.zeroValue5
 t9:=Tryz.underlying9
 a9:=Tryz.isAgg9
 z9:=Tryz.sizeOf9
 v9:=Tryz.zeroValue9
 t22:=Tryz.underlying43
 a22:=Tryz.isAgg43
 z22:=Tryz.sizeOf43
 v22:=Tryz.zeroValue43
 t25:=Tryz.underlying223
 a25:=Tryz.isAgg223
 z25:=Tryz.sizeOf223
 v25:=Tryz.zeroValue223
 t39:=Tryz.underlying294
 a39:=Tryz.isAgg294
 z39:=Tryz.sizeOf294
 v39:=Tryz.zeroValue294
 t45:=Tryz.underlying319
 a45:=Tryz.isAgg319
 z45:=Tryz.sizeOf319
 v45:=Tryz.zeroValue319
 t46:=Tryz.underlying320
 a46:=Tryz.isAgg320
 z46:=Tryz.sizeOf320
 v46:=Tryz.zeroValue320
 t50:=Tryz.underlying304
 a50:=Tryz.isAgg304
 z50:=Tryz.sizeOf304
 v50:=Tryz.zeroValue304
 t53:=Tryz.underlying326
 a53:=Tryz.isAgg326
 z53:=Tryz.sizeOf326
 v53:=Tryz.zeroValue326
 t55:=Tryz.underlying24
 a55:=Tryz.isAgg24
 z55:=Tryz.sizeOf24
 v55:=Tryz.zeroValue24
 t66:=Tryz.underlying345
 a66:=Tryz.isAgg345
 z66:=Tryz.sizeOf345
 v66:=Tryz.zeroValue345
 t70:=Tryz.underlying348
 a70:=Tryz.isAgg348
 z70:=Tryz.sizeOf348
 v70:=Tryz.zeroValue348
 t76:=Tryz.underlying357
 a76:=Tryz.isAgg357
 z76:=Tryz.sizeOf357
 v76:=Tryz.zeroValue357
 t77:=Tryz.underlying358
 a77:=Tryz.isAgg358
 z77:=Tryz.sizeOf358
 v77:=Tryz.zeroValue358 }
end Go.Proofs
namespace Go.Proofs.YtkhljboeffhciaaGreat
section
open Go.RowKit Go.Lib Go.Sort
def bT (x y:Fd):Int:=Z.orI (Lib.compareInt x.v.stamp y.v.stamp) (Z.cmpI x.a x.b y.a y.b)
def zB5 (x y:Fnd):Bool:=decide (x.2.stamp<y.2.stamp)||(decide (x.2.stamp=y.2.stamp)&&yR x.1 y.1)
theorem zAU (x y:Fd):ltOf bT x y=zB5 x.fnd y.fnd:=by
 have c:decide (Z.cmpI x.a x.b y.a y.b<0)=yR (x.a,x.b) (y.a,y.b):=by
  rw [Bool.eq_iff_iff,decide_eq_true_iff];exact zPG (x.a,x.b) (y.a,y.b)
 show decide (bT x y<0)=(decide (x.v.stamp<y.v.stamp)||(decide (x.v.stamp=y.v.stamp)&&yR (x.a,x.b) (y.a,y.b)))
 grind [bT,Z.orI,Lib.compareInt]
theorem mA (x y:Fnd):zB5 x y=true↔x.2.stamp<y.2.stamp∨(x.2.stamp=y.2.stamp/\yR x.1 y.1=true):=by
 unfold zB5;simp
theorem zRY:SWO (ltOf bT) where
 irrefl x:=by
  rw [zAU]
  cases h:zB5 x.fnd x.fnd with
  | false=>rfl
  | true =>
  rcases (mA _ _).1 h with h|⟨_,h⟩
  ·omega
  rw [wX.irr] at h;cases h
 trans x y z c b:=by
  rw [zAU,mA] at *
  rcases c with c|⟨c,e⟩
  ·omega
  rcases b with b|⟨b,f⟩
  ·omega
  exact Or.inr ⟨by omega,wX.tr _ _ _ e f⟩
 ntrans x y z c b:=by
  rw [zAU] at *
  cases h:zB5 x.fnd z.fnd with
  | false=>rfl
  | true =>
  have g:¬ zB5 x.fnd y.fnd=true:=by rw [c];simp
  have d:¬ zB5 y.fnd z.fnd=true:=by rw [b];simp
  rw [mA] at g d
  rcases (mA _ _).1 h with h|⟨h,k⟩
  ·omega
  have j:x.fnd.2.stamp=y.fnd.2.stamp:=by
   rcases Int.lt_trichotomy x.fnd.2.stamp y.fnd.2.stamp with a|a|a
   ·omega
   ·exact a
   omega
  have i:y.fnd.2.stamp=z.fnd.2.stamp:=by omega
  rcases wX.tot y.fnd.1 x.fnd.1 with a|a|a
  ·exact absurd (Or.inr ⟨i,wX.tr _ _ _ a k⟩) d
  ·grind
  grind
theorem zPp (a:Int) (w:World):Calls Tryz.prog 290 #[.int .u64 a] w fun e b=>e=.returned (.bool false)/\b=w:=by
 go_enter Tryz.func290,Tryz.ntmps290
 go_wp2_with fail
 go_ret
 simp_all
theorem zOw (a b:Int) (w:World):Calls Tryz.prog 247 #[.int .u64 a,.int .u64 b] w fun e w'=>e=.returned (.int .i64 (Lib.compareInt a b))/\w'=w:=by
 have HN:=hid zPp
 rcases Int.lt_trichotomy a b with h|h|h
 ·have hc:Lib.compareInt a b=-1:=by unfold Lib.compareInt;simp [h]
  rw [hc];go_enter Tryz.func247,Tryz.ntmps247;go_wp2_with (first|(go_at_call 290;refine (HN.o _ _).mono ?_;rintro e w1 ⟨rfl,rfl⟩));go_ret;exact ⟨rfl,rfl⟩
 ·have hc:Lib.compareInt a b=0:=by unfold Lib.compareInt;simp [h]
  rw [hc];subst h;go_enter Tryz.func247,Tryz.ntmps247;go_wp2_with (first|(go_at_call 290;refine (HN.o _ _).mono ?_;rintro e w1 ⟨rfl,rfl⟩));go_ret;exact ⟨rfl,rfl⟩
 have hn:¬ a<b:=by omega
 have hc:Lib.compareInt a b=1:=by unfold Lib.compareInt;simp [hn,h]
 rw [hc];go_enter Tryz.func247,Tryz.ntmps247;go_wp2_with (first|(go_at_call 290;refine (HN.o _ _).mono ?_;rintro e w1 ⟨rfl,rfl⟩));go_ret;exact ⟨rfl,rfl⟩
theorem zHB (x y:Fd) (w:World):Calls Tryz.prog 199 #[.agg (zK x).toArray,.agg (zK y).toArray] w fun e c=>e=.returned (.int .i64 (bT x y))/\yC w c:=by
 obtain ⟨f,J⟩:∃p,Lib.compareInt x.v.stamp y.v.stamp=p:=⟨_,rfl⟩;obtain ⟨p2,hp2⟩:∃p,Z.cmpI x.a x.b y.a y.b=p:=⟨_,rfl⟩;have E:Hid (bT x y=Z.orI f p2):=by show _=_;rw [<-J,<-hp2];rfl
 have F:Hid (∀w,CC 247 #[iu x.v.stamp,iu y.v.stamp] w fun e c=>e=.returned (ii f)/\c=w):=fun w=>by grind [zOw]
 have L:Hid (∀w,CC 104 #[.agg #[tq x.a,tq x.b],.agg #[tq y.a,tq y.b]] w fun e c=>e=.returned (ii p2)/\yC w c):=fun w=>by
  rw [<-hp2];exact (Z.compare_eq x.a x.b y.a y.b w).mono fun e c ⟨j,h2⟩=>⟨j,by rw [h2];exact ((((yC.refl _).alloc _).alloc _).alloc _).drewN 1⟩
 obtain ⟨g,h,n,i,t,u,q,r,A⟩:=x;obtain ⟨ya,yb,yn,ys,yt,yl,yp,yc,yo⟩:=y;simp only [zK,zF,Vx.sl] at *;obtain ⟨W,hW⟩:=eE ((w.alloc (.cells #[tq g,tq h,ii n,iu i,ii t,.bool u,sc q A.length r] 171)).alloc (.cells #[tq ya,tq yb,ii yn,iu ys,ii yt,.bool yl,sc yp yo.length yc] 171));obtain ⟨N,hN⟩:=eE w.z;have T:W.z=N+2:=by rw [<-hW,<-hN];simp
 have I:W.heap[N]? = some (oc #[tq g,tq h,ii n,iu i,ii t,.bool u,sc q A.length r] 171):=by
  rw [<-hW,<-hN];exact (Below.heap_alloc _ _ _ (by simp)).trans (heap_alloc_new w _)
 have O:W.heap[N+1]? = some (oc #[tq ya,tq yb,ii yn,iu ys,ii yt,.bool yl,sc yp yo.length yc] 171):=by
  rw [<-hW,<-hN];have:=heap_alloc_new (w.alloc (.cells #[tq g,tq h,ii n,iu i,ii t,.bool u,sc q A.length r] 171)) (.cells #[tq ya,tq yb,ii yn,iu ys,ii yt,.bool yl,sc yp yo.length yc] 171);rwa [World.size_alloc] at this
 have P:Hid (yC w W.drew):=by rw [<-hW];exact (((yC.refl _).alloc _).alloc _).drewN 1
 have s:Hid (∀c:World,yC W.drew c->(c.cell? (aa N 0)=some (tq g)/\c.cell? (aa N 1)=some (tq h)/\c.cell? (aa N 3)=some (iu i))/\c.cell? (aa (N+1) 0)=some (tq ya)/\c.cell? (aa (N+1) 1)=some (tq yb)/\c.cell? (aa (N+1) 3)=some (iu ys)):=fun c B=>by
  have l:=(B.below.block N (show N<W.z by omega)).trans I;have j:=(B.below.block (N+1) (show N+1<W.z by omega)).trans O;rw [Lib.cell_of_heap l,Lib.cell_of_heap l,Lib.cell_of_heap l,Lib.cell_of_heap j,Lib.cell_of_heap j,Lib.cell_of_heap j]
  grind
 have D:=s.out W.drew (yC.refl _);go_enter Tryz.func199,Tryz.ntmps199;go_wp2_with fail;(try rw [hN]);(try rw [hW]);refine wp_region_held_drew (S:=fun c=>(c.cell? (aa N 0)=some (tq g)/\c.cell? (aa N 1)=some (tq h)/\c.cell? (aa N 3)=some (iu i))/\c.cell? (aa (N+1) 0)=some (tq ya)/\c.cell? (aa (N+1) 1)=some (tq yb)/\c.cell? (aa (N+1) 3)=some (iu ys)) (by kernel_rfl) D (fun hHeld=>?_);refine tkv 0 (.pointer (some (aa N 2))) hHeld ?_;simp only [Act.put,sz];refine tkv 1 (.pointer (some (aa N 3))) hHeld ?_;simp only [Act.put,sz];refine tkv 2 (iu i) hHeld ?_;simp only [Act.put,sz];refine tkv 3 (.pointer (some (aa (N+1) 2))) hHeld ?_;simp only [Act.put,sz];refine tkv 4 (.pointer (some (aa (N+1) 3))) hHeld ?_;simp only [Act.put,sz];refine tkv 5 (iu ys) hHeld ?_;simp only [Act.put,sz];refine tkv 7 (jp N) hHeld ?_;simp only [Act.put,sz];refine tkv 8 (.agg #[tq g,tq h]) hHeld ?_;simp only [Act.put,sz];refine tkv 9 (jp (N+1)) hHeld ?_;simp only [Act.put,sz];refine tkv 10 (.agg #[tq ya,tq yb]) hHeld ?_;simp only [Act.put,sz];refine wpAnyH_ready (rs:=[6]) (by kernel_rfl) (by simp) ?_;refine AllReadyH.cons (zB rfl) (fun K d=>?_) AllReadyH.nil;rw [if_pos (by rfl)]
 go_simp
 refine (F.o _).mono ?_;rintro e Q ⟨rfl,rfl⟩;go_wp2_with fail;refine d.out _ _ D (fun hHeld=>?_)
 try simp only [Act.put,sz]
 refine wpAnyH_ready (rs:=[11]) (by kernel_rfl) (by simp) ?_;refine AllReadyH.cons (zB rfl) (fun K d=>?_) AllReadyH.nil;rw [if_pos (by rfl)]
 go_simp
 refine (L.o _).mono ?_;rintro e k ⟨rfl,m⟩;have G:=s.out k m;have C:=s.out (k.alloc (.cells #[ii f,ii p2] 3)) (m.alloc _);have M:=hid (Z.zor_any f p2 k.z (k.alloc (.cells #[ii f,ii p2] 3)) (by simp_all) (by simp_all));have H:=hid (m.alloc (.cells #[ii f,ii p2] 3));go_wp2_with fail;refine d.out _ _ G (fun hHeld=>?_)
 try simp only [Act.put,sz]
 refine wpAnyH_ready (rs:=[12]) (by kernel_rfl) (by simp) ?_;refine AllReadyH.cons (zB rfl) (fun K d=>?_) AllReadyH.nil;rw [if_pos (by rfl)]
 go_simp
 refine d.out _ _ C (fun hHeld=>?_)
 try simp only [Act.put,sz]
 refine wpAnyH_ready (rs:=[13]) (by kernel_rfl) (by simp) ?_;refine AllReadyH.cons (zB rfl) (fun K d=>?_) AllReadyH.nil;rw [if_pos (by rfl)]
 go_simp
 refine M.o.mono ?_;rintro e R ⟨rfl,rfl⟩;go_wp2_with fail;refine d.out _ _ C (fun hHeld=>?_)
 try simp only [Act.put,sz]
 refine tkv 14 (ii (Z.orI f p2)) hHeld ?_;simp only [Act.put,sz];refine wpAnyH_done (by kernel_rfl) ?_ _;go_wp2_with fail;go_ret;exact ⟨tW E.o.symm,P.o.trans H.o⟩
theorem zKX (c b a:Nat) (w:World):CmpLays Tryz.prog 199 #[] zK 7 bT c b a w :=
 fun _ _ _ _ x y=>zHB x y _
theorem zCO:∀args w,(callFunc 199 args).run Tryz.prog w=.ok (.enter 199 args) w:=enters_of Tryz.func199 (by kernel_rfl) rfl
theorem zHu (a b c:Nat) (d:Array Fd) (w:World) (g:HoldsK zK 7 w a b d) (f:a<w.heap.size) (i:d.size<4611686018427387904) :
  Calls Tryz.prog 198 #[.slice (some ⟨a,b,none⟩) d.size c,.func (.func 199) #[] #[]] w fun e h =>
   e=.returned (.tuple #[])/\∃d' n os,PermIn 0 d.size d d'/\SortedIn (ltOf bT) 0 d.size d'/\h=sortWorldK zK 7 w a b n d' os :=
 AnyQ.slices_SortFunc Tryz.sortFnd 7 Tryz.isAgg171 Tryz.sizeOf171 zK (fun _=>rfl) KFd.one bT zRY 199 #[] a b c d w zCO (zKX a b d.size w) g f i
theorem zHo (W:World):Calls Tryz.prog 198 #[.slice none 0 0,.func (.func 199) #[] #[]] W fun e w'=>e=.returned (.tuple #[])/\w'=W:=by
 have hi:∀W,CC 236 #[sc none 0 0,ii 0,ii 0,.func (.func 199) #[] #[]] W fun e w'=>e=.returned (.tuple #[])/\w'=W:=fun W=>by
  go_enter Tryz.func236,Tryz.ntmps236
  go_wp2_with fail
  refine wp_loop_rounds 1 ?_;rw [rounds_succ];go_wp2_with fail
  go_end0
  grind
 have HI:=hid hi;clear hi
 have hp:∀(l:Int) W,CC 246 #[sc none 0 0,ii 0,ii 0,ii l,.func (.func 199) #[] #[]] W fun e w'=>e=.returned (.tuple #[])/\w'=W:=fun l W=>by
  go_enter Tryz.func246,Tryz.ntmps246
  go_wp2_with fail
  refine wp_loop_rounds 1 ?_;rw [rounds_succ];go_wp2_with (first|(go_at_call 236;refine (HI.o _).mono ?_;rintro e w1 ⟨rfl,rfl⟩));refine bodyPost_ret (results_none (h:=Tryz.results246) _ _ _) rfl ?_
  grind
 have HP:=hid hp;clear hp;go_enter Tryz.func198,Tryz.ntmps198;go_wp2_with (first|(go_at_call 209;refine (Tryz.bits_Len 0 _ (by omega) (by omega)).mono ?_;rintro e w1 ⟨rfl,rfl⟩)|(go_at_call 246;refine (HP.o _ _).mono ?_;rintro e w1 ⟨rfl,rfl⟩))
 go_end0
 grind
def jY (l:List Fnd):Prop:=l.Pairwise fun a b=>zB5 b a=false
theorem zEc {B:Nat} {w:World} {u:Value} {fs:List Fd} (h:KFd.Own B w u fs) (hl:fs.length<=2400000000000) (hB:B<=w.heap.size) :
  Calls Tryz.prog 198 #[u,.func (.func 199) #[] #[]] w fun e w'=>e=.returned (.tuple #[])/\∃l:List Fd,KFd.Own B w' u l/\l.Perm fs/\jY (l.map Fd.fnd)/\Fr (fun b=>u.ownBlock=some b) w w':=by
 rcases h.2 with ⟨rfl,hz⟩|⟨g,cap,cur,rfl,_⟩
 ·obtain rfl:=List.length_eq_zero_iff.1 hz
  refine (zHo w).mono ?_
  rintro e w' ⟨rfl,rfl⟩
  exact ⟨rfl,[],h,List.Perm.refl _,List.Pairwise.nil,Fr.refl _ _⟩
 have hge:=zC.own_ge h
 have hH:HoldsK zK 7 w g 0 fs.toArray:=zC.own_holds h
 have:=zHu g 0 cap fs.toArray w hH hge.2.1 (by simp;omega)
 simp only [List.size_toArray] at this
 refine this.mono ?_
 rintro e w' ⟨rfl,d',n,os,hp,hs,rfl⟩
 obtain ⟨h1,_,h3⟩:=hp
 have hsz:d'.size=fs.length:=by simpa using h1
 have hperm:d'.toList.Perm fs:=by
  have e1:(d'.extract 0 fs.length).toList=d'.toList:=by rw [<-hsz];simp
  have e2:(fs.toArray.extract 0 fs.length).toList=fs:=by simp
  rw [e1,e2] at h3
  exact h3
 refine ⟨rfl,d'.toList,zC.own_sorted h d' hsz n os,hperm,?_,?_⟩
 ·refine List.pairwise_map.2 (List.pairwise_iff_getElem.2 fun i j hi hj hij=>?_)
  have hi':i<d'.size:=by simpa using hi
  have hj':j<d'.size:=by simpa using hj
  have:=hs i j (Nat.zero_le _) hij (by omega)
  grind [zAU]
 have hb:=jU zK 7 (B:=g) (Below.refl _ w) (by omega) g 0 n d' os (Nat.le_refl _)
 refine ⟨hb.os,hb.tape,hb.output,hb.size,fun k hk hn=>?_⟩
 have hkg:k≠g:=fun e=>hn (by rw [e];rfl)
 grind [sortWorldK,Sort.grow,putRowK,putRow,mapBlock,Sort.ahead]
end
section
open Go.RowKit
section
variable {D:List zQ} {N M Kb:Nat} {w w' W wr W':World} {v u vk:Value} {fs:List Fd} {o:List Vx} {keys:List Ky} {acc:List Fnd} {k:Ky}
def vJ (D:List zQ) (t:Int) (ks:List Ky):List Fnd:=ks.flatMap fun k=>(vE (ofD D k) t).map fun v=>(k,v)
theorem zBH (D:List zQ) (t:Int) (ks:List Ky) (k:Ky):vJ D t (ks++[k])=vJ D t ks++(vE (ofD D k) t).map fun v=>(k,v):=by grind [vJ]
theorem zHG (D:List zQ) (t:Int) (ks:List Ky) (i:Nat):(vJ D t (ks.take i)).length<=(vJ D t ks).length:=by grind [vJ,List.take_append_drop]
theorem zCq (h:OkD D) (t:Int) {ks:List Ky} (a:ks.Nodup) (b:∀k∈ks,ofD D k≠[]):(vJ D t ks).length<=zT D:=by
 have c:(vJ D t ks).length<=(ks.map fun k=>(ofD D k).length).sum:=by
  unfold vJ
  induction ks with
  | nil=>simp
  | cons k ks ih=>grind [vE]
 exact Nat.le_trans c (gG h List.length a b)
theorem zBW (h:OkD D) (t:Int) (typ:ByteArray):vJ D t (tQ D typ)=wH D typ t:=by
 have a:∀r∈D,ofD D r.1=r.2:=fun r b=>gK h b
 unfold vJ tQ wH
 generalize ofD D=F at a
 clear h
 induction D with
 | nil=>rfl
 | cons r d ih=>grind
def zEt (W:World) (D:List zQ) (typ:ByteArray) (t:Int) (e:Ending) (w':World):Prop:=∃r,zCV W r e w'/\r.Perm (wH D typ t)/\jY r
theorem zKA (h:OkD D) {typ:ByteArray} {t:Int} {a b:Fnd} (n:a∈wH D typ t) (l:b∈wH D typ t) (m:a.1=b.1) (hs:a.2.stamp=b.2.stamp):a=b:=by
 have g:∀{x:Fnd},x∈wH D typ t->x.2∈ofD D x.1:=fun {x} c=>by
  unfold wH at c;obtain ⟨r,d,c⟩:=List.mem_flatMap.1 c;obtain ⟨v,hv,rfl⟩:=List.mem_map.1 c;rw [gK h (List.mem_filter.1 d).1];exact zAf hv
 have p:=g n;have f:=g l;rw [<-m] at f;have d:=(mX h a.1).rise;obtain ⟨i,hi,s⟩:=List.mem_iff_getElem.1 p;obtain ⟨j,hj,e2⟩:=List.mem_iff_getElem.1 f
 have y:i=j:=by
  rcases Nat.lt_trichotomy i j with e|q|e
  ·have:=zBj d e hj
   grind
  ·exact q
  have:=zBj d e hi
  grind
 grind
theorem zCC {α:Type} {K:zC α} {d:List α} (h:K.Own N w v d) (c:KFd.Own M w u fs) (g:w.grownBy w' u.ownBlock) (a:K.T≠171):K.Own N w' v d :=
 (mV g).row h fun k b e=>by
  obtain ⟨i,f⟩:=zU h b;obtain ⟨c2,h4⟩:=zU c e;rw [f] at h4;injection h4 with h4
  injection h4 with _ h4 _
  exact a h4
theorem kW {s:Value} {o:List Fx} (h:zW N w s o) (c:KFd.Own M w u fs) (f:w.grownBy w' u.ownBlock):zW N w' s o :=
 yD h (mV f) fun k b e=>by
  obtain ⟨i,g,d,a⟩:=sT h b;obtain ⟨c2,h4⟩:=zU c e;rw [d] at h4;injection h4 with h4
  injection h4 with _ h4 _
  rcases a with a|a
  ·exact absurd (a.symm.trans h4) (by decide)
  exact absurd (a.symm.trans h4) (by decide)
structure zDN (W:World) (N:Nat) (vk:Value) (keys:List Ky) (fs:List Fd) (acc:List Fnd) (v:Value) (wr:World):Prop where
 own:KFd.Own N wr v fs
 val:∀f∈fs,zW N wr f.v.sl f.v.o/\yU (f.v.o.map Fx.fld)=true
 eq:fs.map Fd.fnd=acc
 key:KK.Own N wr vk keys
 bel:Below N W wr
theorem zDN.on (h:zDN W N vk keys fs acc v wr) (hs:N<=wr.heap.size) (a:Below wr.heap.size wr W'):zDN W N vk keys fs acc v W' :=
 ⟨zC.own_on h.own a,fun f b=>⟨(h.val f b).1.on a,(h.val f b).2⟩,h.eq,zC.own_on h.key a,zA h.bel hs a⟩
theorem zDN.len (h:zDN W N vk keys fs acc v wr):fs.length=acc.length:=by
 have:=congrArg List.length h.eq
 grind
structure LgJ (W:World) (N:Nat) (vk:Value) (keys:List Ky) (Kb:Nat) (k:Ky) (u:Value) (o:List Vx) (fs:List Fd) (acc:List Fnd) (v:Value) (wr:World):Prop where
 lg:zDN W N vk keys fs acc v wr
 box:wr.heap[Kb]? = some (.cells #[.string k.1,.string k.2] 36 (0,0))
 row:KV.Own N wr u o
 each:∀x∈o,zW N wr x.sl x.o/\yU (x.o.map Fx.fld)=true
theorem LgJ.on (h:LgJ W N vk keys Kb k u o fs acc v wr) (hs:N<=wr.heap.size) (a:Below wr.heap.size wr W'):LgJ W N vk keys Kb k u o fs acc v W' :=
 ⟨h.lg.on hs a,(a.block Kb (gA h.box).1).trans h.box,zC.own_on h.row a,fun x b=>⟨(h.each x b).1.on a,(h.each x b).2⟩⟩
theorem LgJ.push {v':Value} {i:World} (h:LgJ W N vk keys Kb k u o fs acc v wr) (hs:N<=wr.heap.size) (d:wr.grownBy i v.ownBlock) {x:Vx} (j:x∈o)
  (ho:KFd.Own N i v' (fs++[⟨k.1,k.2,x⟩])):LgJ W N vk keys Kb k u o (fs++[⟨k.1,k.2,x⟩]) (acc++[(k,x.ver)]) v' i:=by
 have n:i.heap[Kb]? = wr.heap[Kb]?:=d.block Kb (gA h.box).1 fun e=>by
  obtain ⟨c,g⟩:=zU h.lg.own e.symm;rw [h.box] at g;injection g with g
  injection g with _ g _
  exact absurd g (by decide)
 refine ⟨⟨ho,fun f a=>?_,by rw [List.map_append,h.lg.eq];rfl,zCC h.lg.key h.lg.own d (by decide),h.lg.bel.trans ((mV d).below hs fun b m=>(World.ownsRow.lt h.lg.own b m).1)⟩,n.trans h.box,zCC h.row h.lg.own d (by decide),fun y l=>⟨kW (h.each y l).1 h.lg.own d,(h.each y l).2⟩⟩
 rcases List.mem_append.1 a with a|a
 ·exact ⟨kW (h.lg.val f a).1 h.lg.own d,(h.lg.val f a).2⟩
 rw [List.mem_singleton] at a;subst a;exact ⟨kW (h.each x j).1 h.lg.own d,(h.each x j).2⟩
end
end
section
section
variable {D E:List zQ} {typ:ByteArray} {s:Int}
def sJ (D:List zQ) (fl sn t:Int) (k:Ky):Option Vr × Int:=if t<fl then (none,8) else match atV (ofD D k) (min t sn) with|some v=>(some v,0)|none=>(none,6)
def wN (D:List zQ) (fl sn t:Int) (typ:ByteArray) (P:List Fld->Bool):List Fnd × Int:=if t<fl then ([],8) else (xG D typ (min t sn) P,0)
def wM (D:List zQ) (fl sn:Int) (k:Ky) (s:Int):List Vr × Int:=if s<fl then ([],8) else ((vE (ofD D k) s).filter (fun v=>decide (v.stamp<=sn)),0)
def wB (D:List zQ) (fl sn:Int) (typ:ByteArray) (s:Int) (L:List Fnd × Int):Prop:=if s<fl then L=([],8) else L.2=0/\∃r:List Fnd,r.Perm (wH D typ s)/\jY r/\L.1=r.filter fun x=>decide (x.2.stamp<=sn)
theorem zL8 (h:OkD D) {typ:ByteArray} {t:Int} {p:Fnd->Bool} {r s:List Fnd} (c:r.Perm (wH D typ t)) (hs:s.Perm (wH E typ t)) (d:((wH D typ t).filter p).Perm ((wH E typ t).filter p)) (g:jY r) (i:jY s):r.filter p=s.filter p:=by
 have hp':(r.filter p).Perm (s.filter p):=(c.filter p).trans (d.trans (hs.filter p).symm);refine List.Perm.eq_of_pairwise (le:=fun a b=>zB5 b a=false) (fun a b j k m e=>?_) (g.filter p) (i.filter p) hp';have ha':=c.mem_iff.1 (List.mem_filter.1 j).1;have hb':=c.mem_iff.1 (List.mem_filter.1 (hp'.mem_iff.2 k)).1;have f:¬ zB5 b a=true:=by rw [m];simp
 have l:¬ zB5 a b=true:=by rw [e];simp
 rw [mA] at f l
 have n:a.2.stamp=b.2.stamp:=by
  rcases Int.lt_trichotomy a.2.stamp b.2.stamp with q|q|q
  ·omega
  ·exact q
  omega
 have o:a.1=b.1:=by
  rcases wX.tot a.1 b.1 with q|q|q
  ·grind
  ·exact q
  grind
 grind [zKA]
theorem zJK (h:OkD D) {fl a:Int} {typ:ByteArray} {s:Int} {L M:List Fnd × Int} (c:wB D fl a typ s L) (b:wB E fl a typ s M) (d:¬ s<fl->((wH D typ s).filter fun x=>decide (x.2.stamp<=a)).Perm ((wH E typ s).filter fun x=>decide (x.2.stamp<=a))):L=M:=by
 unfold wB at c b
 by_cases hs:s<fl
 ·grind
 rw [if_neg hs] at c b
 grind [zL8]
def zNH (s:Int) (D E:List zQ):Prop:=∀k,zKB s (ofD D k) (ofD E k)/\(ofD E k=[]->∀f,(ofD D k).head? = some f->f.num=1)
theorem zLh (s:Int) (D:List zQ):zNH s D D:=fun k=>⟨zMS s _,fun h f a=>by grind⟩
theorem zOF (h:zNH s D E) (k:Ky) {b:Int} (hs:s<b) (tick:Int) (i:Bool) (d:List Fld):zNH s (nV D k b tick i d) E:=by
 unfold nV
 split
 ·intro c;rw [bN]
  split
  ·next e =>
   subst e;refine ⟨zNP (h _).1 hs,fun g f a=>?_⟩
   cases hd:ofD D c with
   | nil =>
    rw [hd] at a;unfold pA at a;rw [List.nil_append] at a;injection a with a
    rw [<-a];rfl
   | cons x l =>
   refine (h _).2 g f ?_;rw [hd] at a ⊢;exact a
  exact h c
 exact h
end
end
section
open Go.RowKit
structure Dn where
 snap:Int
 stamp:Int
 out:Bool
 marks:Mk
 chg:List Ch
structure Tk where
 most:Nat
 kept:List Dn
 last:Option Int
 sum:Int
def zDa (most:Int):Nat:=(min (max most 0) 64).toNat
def zDP (most:Int):Tk:=⟨zDa most,[],none,0⟩
def uV (s:Int) (d:Dn):Bool:=decide (s<d.stamp)
def zP5 (l:List Dn) (s:Int) (m:Mk):Bool:=l.any fun d=>uV s d&&xA m d.chg
def zN4 (l:List Dn) (s:Int) (m:Mk):Bool:=l.any fun d=>uV s d&&(xA m d.chg&&d.out)
def inT (l:List Dn) (s:Int) (c:List Ch):Bool:=l.any fun d=>uV s d&&xA d.marks c
def zFK (t:Tk) (s:Int) (m:Mk) (c:List Ch):Bool:=decide (s<t.sum)||zN4 t.kept s m||(zP5 t.kept s m&&inT t.kept s c)
def yO (t:Tk) (s:Int) (m:Mk) (c:List Ch):Bool × Int:=if zFK t s m c then (false,11) else (zP5 t.kept s m,0)
def zMC (t:Tk) (d:Dn):Bool:=match t.last with|some s=>decide (d.stamp<s)|none=>false
def sD (t:Tk) (d:Dn):Tk :=
 if t.kept.length<t.most then ⟨t.most,t.kept++[d],some d.stamp,t.sum⟩
 else match t.kept with
  | []=>⟨t.most,[],some d.stamp,max t.sum d.stamp⟩
  | x::r=>⟨t.most,r++[d],some d.stamp,max t.sum x.stamp⟩
def qJ (t:Tk) (d:Dn):Int × Tk:=if zMC t d then (8,t) else (0,sD t d)
def uP (t:Tk) (least:Int):Tk:={ t with kept:=t.kept.filter fun d=>decide (least<d.stamp) }
structure OkT (t:Tk):Prop where
 few:t.kept.length<=t.most
 rise:t.kept.Pairwise fun a b=>a.stamp<=b.stamp
 top:∀d∈t.kept,∃s,t.last=some s/\d.stamp<=s
 low:∀d∈t.kept,t.sum<=d.stamp
 sum:0<=t.sum/\(t.sum=0∨∃s,t.last=some s/\t.sum<=s)
theorem zJx (b:Int):OkT (zDP b):=⟨Nat.zero_le _,List.Pairwise.nil,fun d a=>by simp [zDP] at a,fun d a=>by simp [zDP] at a,Int.le_refl _,Or.inl rfl⟩
theorem fP (t:Tk) (d:Dn):(sD t d).last=some d.stamp:=by grind [sD]
theorem zCQ (t:Tk) (d:Dn):(sD t d).most=t.most:=by grind [sD]
theorem zJc {t:Tk} {d:Dn} (h:zMC t d=false) {s:Int} (hs:t.last=some s):s<=d.stamp:=by grind [zMC]
theorem zNy {t:Tk} (h:OkT t) {d:Dn} (g:zMC t d=false) (n:0<=d.stamp):OkT (sD t d):=by
 have j:∀x∈t.kept,x.stamp<=d.stamp:=fun x c=>by
  obtain ⟨s,f,l⟩:=h.top x c;have:=zJc g f;omega
 have o:t.sum<=d.stamp:=by
  rcases h.sum.2 with e|⟨s,f,l⟩
  ·omega
  have:=zJc g f;omega
 refine ⟨?_,?_,fun x c=>⟨d.stamp,fP t d,?_⟩,fun x c=>?_,?_⟩
 ·rw [zCQ];have:=h.few
  grind [sD]
 ·unfold sD
  split
  ·exact List.pairwise_append.2 ⟨h.rise,List.pairwise_singleton _ _,fun a p b m=>by grind⟩
  split
  ·exact List.Pairwise.nil
  next x r hk =>
  have k:=h.rise
  grind
 ·grind [sD]
 ·unfold sD at c ⊢
  split
  ·next hc =>
   rw [if_pos hc] at c
   rcases List.mem_append.1 c with c|c
   ·exact h.low x c
   grind
  next hc =>
  rw [if_neg hc] at c
  split
  ·grind
  next y r hk =>
  rw [hk] at c;show max t.sum y.stamp<=x.stamp;have q:=j y (by grind)
  rcases List.mem_append.1 c with c|c
  ·have i:=h.low x (by grind);have k:=h.rise
   grind [List.pairwise_cons]
  grind
 have i:=h.sum.1
 grind [sD]
theorem zFI {t:Tk} (h:OkT t) (d:Dn) (a:0<=d.stamp):OkT (qJ t d).2:=by grind [qJ,zNy]
theorem zCI {t:Tk} (h:OkT t) (b:Int):OkT (uP t b) :=
 ⟨Nat.le_trans (List.length_filter_le _ _) h.few,h.rise.sublist List.filter_sublist,fun d a=>h.top d (List.mem_filter.1 a).1,fun d a=>h.low d (List.mem_filter.1 a).1,h.sum⟩
theorem zME {l:List Dn} {s:Int} {m:Mk} (h:∀d∈l,d.stamp<=s):zP5 l s m=false/\zN4 l s m=false:=by
 have b:∀d∈l,uV s d=false:=fun d a=>decide_eq_false (by grind)
 refine ⟨List.any_eq_false.2 fun d a=>?_,List.any_eq_false.2 fun d a=>?_⟩<;>grind
theorem zN7 {t:Tk} (h:OkT t) {s:Int} (hs:∀x,t.last=some x->x<=s) (g:0<=s) (m:Mk) (c:List Ch):yO t s m c=(false,0):=by
 have i:∀d∈t.kept,d.stamp<=s:=fun d b=>by
  obtain ⟨x,a,f⟩:=h.top d b;have:=hs x a;omega
 have j:¬ s<t.sum:=by
  rcases h.sum.2 with e|⟨x,a,f⟩
  ·omega
  grind
 grind [yO,zFK,zME]
end
section
open Go.RowKit
def qB {β:Type} (x:Ky × β):List (Ky × β)->List (Ky × β)
 | []=>[x]
 | y::r=>if yR x.1 y.1 then x::y::r else y::qB x r
section
variable {β:Type}
theorem zAJ (x:Ky × β):∀l:List (Ky × β),(qB x l).length=l.length+1
 | []=>rfl
 | y::r=>by
  unfold qB
  split
  ·rfl
  rw [List.length_cons,zAJ x r,List.length_cons]
theorem mB (x z:Ky × β):∀l:List (Ky × β),z∈qB x l↔z=x∨z∈l
 | []=>by simp [qB]
 | y::r=>by
  unfold qB
  split
  ·rw [List.mem_cons]
  rw [List.mem_cons,mB x z r,List.mem_cons]
  grind
def jF (l:List (Ky × β)):Prop:=l.Pairwise fun x y=>yR y.1 x.1=false
theorem zQc {a b:Ky} (h:yR a b=true):yR b a=false:=by
 cases e:yR b a
 ·rfl
 have:=wX.tr _ _ _ h e;rw [wX.irr] at this
 cases this
theorem zQZ {a b c:Ky} (h:yR b a=false) (k:yR c b=false):yR c a=false:=by
 cases e:yR c a
 ·rfl
 rcases wX.tot b a with d|d|d
 ·grind
 ·grind
 have:=wX.tr _ _ _ e d
 grind
theorem zBC (x:Ky × β):∀{l:List (Ky × β)},jF l->jF (qB x l)
 | [],_=>List.pairwise_cons.2 ⟨fun _ h=>by simp at h,List.Pairwise.nil⟩
 | y::r,h=>by
  obtain ⟨c,a⟩:=List.pairwise_cons.1 h;unfold qB
  split
  ·next hx =>
   refine List.pairwise_cons.2 ⟨fun z b=>?_,h⟩
   grind [zQc,zQZ]
  next hx =>
  refine List.pairwise_cons.2 ⟨fun z b=>?_,zBC x a⟩
  grind [mB]
def nD (l:List (Ky × β)):List (Ky × β):=l.foldl (fun a x=>qB x a) []
theorem zDE (l:List (Ky × β)):∀a,jF a->jF (l.foldl (fun a x=>qB x a) a)/\(l.foldl (fun a x=>qB x a) a).length=a.length+l.length/\∀z,z∈l.foldl (fun a x=>qB x a) a↔z∈a∨z∈l:=by
 induction l with
 | nil=>grind
 | cons x l ih=>grind [zBC,zAJ,mB]
theorem dL (l:List (Ky × β)):jF (nD l):=(zDE l [] List.Pairwise.nil).1
theorem zKc (l:List (Ky × β)):(nD l).length=l.length:=by
 have:=(zDE l [] List.Pairwise.nil).2.1
 grind [nD]
theorem zEB (l:List (Ky × β)) (z:Ky × β):z∈nD l↔z∈l:=by
 have:=(zDE l [] List.Pairwise.nil).2.2 z
 grind [nD]
theorem zBF (x:Ky × β) (k:Ky):∀{l:List (Ky × β)},jF l->(qB x l).filter (fun y=>decide (y.1=k))=l.filter (fun y=>decide (y.1=k))++[x].filter (fun y=>decide (y.1=k))
 | [],_=>by simp [qB]
 | y::r,h=>by
  obtain ⟨d,c⟩:=List.pairwise_cons.1 h;unfold qB
  split
  ·next hx =>
   by_cases e:x.1=k
   ·have:∀z∈y::r,decide (z.1=k)=false:=fun z a=>by
     refine decide_eq_false fun b=>?_
     rw [<-e] at b
     rcases List.mem_cons.1 a with rfl|a
     ·rw [b,wX.irr] at hx;cases hx
     grind
    grind [List.filter_eq_nil_iff]
   grind
  rw [List.filter_cons,zBF x k c]
  grind
theorem zAQ (l:List (Ky × β)) (k:Ky):(nD l).filter (fun y=>decide (y.1=k))=l.filter (fun y=>decide (y.1=k)):=by
 suffices h:∀a,jF a->(l.foldl (fun a x=>qB x a) a).filter (fun y=>decide (y.1=k))=a.filter (fun y=>decide (y.1=k))++l.filter (fun y=>decide (y.1=k)) by
  have:=h [] List.Pairwise.nil
  grind [nD]
 induction l with
 | nil=>grind
 | cons x l ih =>
 intro a b;rw [List.foldl_cons,ih _ (zBC x b),zBF x k b,List.append_assoc,<-List.filter_append];rfl
theorem zDJ:∀{l m:List (Ky × β)},jF l->jF m->(∀k,l.filter (fun y=>decide (y.1=k))=m.filter (fun y=>decide (y.1=k)))->l=m
 | [],[],_,_,_=>rfl
 | [],y::m,_,_,h=>by have:=h y.1;simp at this
 | x::l,[],_,_,h=>by have:=h x.1;simp at this
 | x::l,y::m,hl,hm,h=>by
  obtain ⟨j,f⟩:=List.pairwise_cons.1 hl;obtain ⟨m1,m2⟩:=List.pairwise_cons.1 hm
  have d:∀{a b:List (Ky × β)},(∀k,a.filter (fun y=>decide (y.1=k))=b.filter (fun y=>decide (y.1=k)))->∀z∈a,z∈b:=fun {a b} h z hz=>by
   have i:z∈a.filter (fun y=>decide (y.1=z.1)):=List.mem_filter.2 ⟨hz,by simp⟩
   simp_all
  have g:x.1=y.1:=by
   have n:=d h x (by simp);have o:=d (fun k=>(h k).symm) y (by simp)
   rcases wX.tot x.1 y.1 with e|e|e
   ·grind
   ·exact e
   grind
  have c:=h x.1;rw [List.filter_cons,if_pos (by simp),List.filter_cons,if_pos (by simp [g])] at c;injection c with e0 _
  subst e0
  congr 1
  refine zDJ f m2 fun k=>?_
  have:=h k
  grind
theorem zFY {l m:List (Ky × β)} (a:jF m) (h:∀k,m.filter (fun y=>decide (y.1=k))=l.filter (fun y=>decide (y.1=k))):m=nD l :=
 zDJ a (dL l) fun k=>(h k).trans (zAQ l k).symm
end
abbrev Wr:=Option (List Fld)
abbrev yI:=Ky × Wr
def yE:List yI->Ky->Option Wr
 | [],_=>none
 | y::r,k=>if y.1=k then some y.2 else yE r k
def qZ (L:List yI) (k:Ky):List yI:=L.filter fun y=>!decide (y.1=k)
def nM (L:List yI) (k:Ky) (e:Wr):List yI:=qB (k,e) (qZ L k)
structure OkW (L:List yI):Prop where
 rise:L.Pairwise fun x y=>yR x.1 y.1=true
 key:∀y∈L,xI y.1.1 y.1.2=true
 may:∀y∈L,∀v,y.2=some v->yU v=true
theorem zJN:OkW []:=⟨List.Pairwise.nil,fun _ h=>by simp at h,fun _ h=>by simp at h⟩
theorem zDr {k:Ky}:∀{L:List yI},yE L k=none↔∀y∈L,y.1≠k
 | []=>by simp [yE]
 | y::r=>by
  unfold yE
  split
  ·grind
  next h=>simp [h,zDr (L:=r)]
theorem uM {k:Ky} {e:Wr}:∀{L:List yI},yE L k=some e->(k,e)∈L
 | [],h=>by simp [yE] at h
 | y::r,h=>by
  unfold yE at h
  split at h
  ·grind
  exact List.mem_cons_of_mem _ (uM h)
theorem gD {y:yI}:∀{L:List yI},(L.Pairwise fun x y=>yR x.1 y.1=true)->y∈L->yE L y.1=some y.2
 | [],_,h=>by simp at h
 | z::r,hp,h=>by
  obtain ⟨a,b⟩:=List.pairwise_cons.1 hp;unfold yE
  rcases List.mem_cons.1 h with rfl|h
  ·rw [if_pos rfl]
  rw [if_neg,gD b h];intro e;have:=a y h;rw [e,wX.irr] at this
  cases this
theorem kG (L:List yI) (k j:Ky):yE (qZ L k) j=if j=k then none else yE L j:=by
 induction L with
 | nil=>simp [qZ,yE]
 | cons y r ih=>grind [qZ,yE]
theorem zFc {x:yI} (j:Ky):∀{L:List yI},(∀y∈L,y.1≠x.1)->yE (qB x L) j=if j=x.1 then some x.2 else yE L j
 | [],_=>by grind [qB,yE]
 | y::r,h=>by
  unfold qB
  split
  ·grind [yE]
  unfold yE;rw [zFc j (fun z a=>h z (List.mem_cons_of_mem _ a))]
  grind
theorem zJo {L:List yI} {k:Ky}:∀y∈qZ L k,y.1≠k:=fun y a=>by
 have:=(List.mem_filter.1 a).2
 grind
theorem kP (L:List yI) (k j:Ky) (e:Wr):yE (nM L k e) j=if j=k then some e else yE L j:=by
 unfold nM;rw [zFc j (x:=(k,e)) zJo,kG]
 grind
theorem zGp {x:yI}:∀{L:List yI},(L.Pairwise fun x y=>yR x.1 y.1=true)->(∀y∈L,y.1≠x.1)->(qB x L).Pairwise fun x y=>yR x.1 y.1=true
 | [],_,_=>List.pairwise_cons.2 ⟨fun _ h=>by simp at h,List.Pairwise.nil⟩
 | y::r,h,hn=>by
  obtain ⟨c,d⟩:=List.pairwise_cons.1 h;unfold qB
  split
  ·next hx =>
   refine List.pairwise_cons.2 ⟨fun z a=>?_,h⟩
   rcases List.mem_cons.1 a with rfl|a
   ·exact hx
   exact wX.tr _ _ _ hx (c z a)
  next hx =>
  refine List.pairwise_cons.2 ⟨fun z a=>?_,zGp d fun z a=>hn z (List.mem_cons_of_mem _ a)⟩
  rcases (mB x z r).1 a with rfl|a
  ·rcases wX.tot y.1 z.1 with b|b|b
   ·exact b
   ·grind
   grind
  grind
theorem zEw {L:List yI} (h:OkW L) (k:Ky):OkW (qZ L k) :=
 ⟨h.rise.sublist List.filter_sublist,fun y a=>h.key y (List.mem_filter.1 a).1,fun y a=>h.may y (List.mem_filter.1 a).1⟩
theorem zFE {L:List yI} (h:OkW L) (k:Ky) (e:Wr) (d:xI k.1 k.2=true) (f:∀v,e=some v->yU v=true):OkW (nM L k e):=by
 have b:=zEw h k;refine ⟨zGp b.rise zJo,fun y a=>?_,fun y a v c=>?_⟩
 ·rcases (mB _ y _).1 a with rfl|a
  ·exact d
  exact b.key y a
 rcases (mB _ y _).1 a with rfl|a
 ·exact f v c
 exact b.may y a v c
theorem zHF (L:List yI) (k:Ky):(qZ L k).length<=L.length:=List.length_filter_le _ _
theorem zFt (L:List yI) (k:Ky) (e:Wr):(nM L k e).length<=L.length+1:=by grind [nM,zAJ,zHF]
def tB (k:Ky) (v:List Fld):Int:=if xI k.1 k.2=false then 2 else if yU v=false then 3 else 0
def zA6 (k:Ky):Int:=if xI k.1 k.2=false then 2 else 0
def mG (L:List yI) (k:Ky) (v:List Fld):List yI:=if tB k v=0 then nM L k (some v) else L
def zMg (L:List yI) (k:Ky):List yI:=if zA6 k=0 then nM L k none else L
def xK (o:Option Wr):Bool:=match o with|some (some _)=>true|_=>false
def jR (o:Option Wr):List Fld:=match o with|some (some v)=>v|_=>[]
theorem zGs {k:Ky} {v:List Fld} (h:tB k v=0):xI k.1 k.2=true/\yU v=true:=by grind [tB]
theorem zOx {L:List yI} (h:OkW L) (k:Ky) (v:List Fld):OkW (mG L k v):=by
 unfold mG
 split
 ·next hc=>exact zFE h k _ (zGs hc).1 fun u a=>by grind [zGs]
 exact h
theorem zMv (L:List yI) (k:Ky) (v:List Fld):(mG L k v).length<=L.length+1:=by grind [mG,zFt]
theorem zNm (L:List yI) (k j:Ky) (v:List Fld):yE (mG L k v) j=if tB k v=0/\j=k then some (some v) else yE L j:=by
 unfold mG
 by_cases hc:tB k v=0
 ·rw [if_pos hc,kP]
  grind
 grind
def xY (L:List yI):List Ky:=L.map (·.1)
def tR (L:List yI) (fs:List (Ky × Vr)):List (Ky × Vr):=fs.filter fun f=>(yE L f.1).isNone
def zBu (typ:ByteArray) (m:List Fld->Bool) (y:yI):Option (Ky × Vr) :=
 match y.2 with
 | some v=>if y.1.1=typ/\m v=true then some (y.1,⟨0,0,0,true,v⟩) else none
 | none=>none
def jZ (L:List yI) (typ:ByteArray) (m:List Fld->Bool):List (Ky × Vr):=L.filterMap (zBu typ m)
def wO (L:List yI) (fs:List (Ky × Vr)) (typ:ByteArray) (m:List Fld->Bool):List (Ky × Vr):=nD (tR L fs++jZ L typ m)
theorem zIq (L:List yI) (a:List (Ky × Vr)) (typ:ByteArray) (m:List Fld->Bool):jF (wO L a typ m):=dL _
theorem zK5 (L:List yI) (a:List (Ky × Vr)) (typ:ByteArray) (m:List Fld->Bool):(wO L a typ m).length=(tR L a).length+(jZ L typ m).length:=by grind [wO,zKc]
theorem zA7 {L:List yI} {typ:ByteArray} {m:List Fld->Bool} {f:Ky × Vr} (h:f∈jZ L typ m):∃v,(f.1,some v)∈L/\f.1.1=typ/\m v=true/\f.2=⟨0,0,0,true,v⟩:=by
 obtain ⟨y,b,a⟩:=List.mem_filterMap.1 h
 grind [zBu]
end
section
open Go.RowKit
abbrev Sn:=List (Option Int)
def atQ (os:Sn) (id:Int):Option Int:=if 1<=id then (os[(id-1).toNat]?).join else none
def yJ (os:Sn) (id:Int):Sn:=if 1<=id then os.set (id-1).toNat none else os
def yW (os:Sn):Nat:=os.countP Option.isSome
def zOf (m:Int) (o:Option Int):Int:=match o with|some s=>if s<m then s else m|none=>m
def yF (os:Sn) (now:Int):Int:=os.foldl zOf now
def zPN (os:Sn) (f:Int):Bool:=os.any fun o=>match o with|some s=>decide (s<f)|none=>false
def bU (os:Sn) (fl x:Int):(Int × Int) × Sn:=if x<fl then ((0,8),os) else (((os.length:Int)+1,0),os++[some x])
def mI (os:Sn) (fl f:Int):Int × Int:=if f<fl then (8,fl) else if zPN os f then (1,fl) else (0,f)
theorem zRE {os:Sn} {a:Int} (h:(os.length:Int)<a):atQ os a=none:=by
 unfold atQ
 split
 ·rw [List.getElem?_eq_none (by omega)];rfl
 rfl
theorem zQs {os:Sn} {i:Nat} (h:i<os.length):atQ os ((i:Int)+1)=os[i]:=by grind [atQ]
theorem zOS (os:Sn) (x a:Int):atQ (os++[some x]) a=if a=(os.length:Int)+1 then some x else atQ os a:=by
 unfold atQ
 by_cases h1:1<=a
 ·rw [if_pos h1,if_pos h1]
  by_cases e:a=(os.length:Int)+1
  ·simp_all
  rw [if_neg e]
  rcases Nat.lt_or_ge (a-1).toNat os.length with h|h
  ·rw [List.getElem?_append_left h]
  rw [List.getElem?_append_right h,List.getElem?_eq_none (l:=os) h,List.getElem?_eq_none (by simp;omega)]
 grind
theorem zMD (os:Sn) (x a:Int):atQ (yJ os x) a=if a=x then none else atQ os a:=by
 unfold yJ
 by_cases hx:1<=x
 ·rw [if_pos hx];unfold atQ
  by_cases h1:1<=a
  ·rw [if_pos h1,if_pos h1,List.getElem?_set]
   by_cases e:a=x
   ·grind
   rw [if_neg e,if_neg (by omega)]
  grind
 grind [atQ]
theorem fY (os:Sn) (x:Int):(yJ os x).length=os.length:=by grind [yJ]
theorem zBD {os:Sn} {x:Int} (h:atQ os x=none):yJ os x=os:=by
 unfold yJ;unfold atQ at h
 by_cases hx:1<=x
 ·rw [if_pos hx] at h ⊢
  rcases Nat.lt_or_ge (x-1).toNat os.length with k|k
  ·rw [List.getElem?_eq_getElem k] at h;have a:os[(x-1).toNat]=none:=h;apply List.ext_getElem?;intro j;rw [List.getElem?_set]
   grind
  exact List.set_eq_of_length_le k
 grind
theorem zAs (m s:Int):zOf m (some s)=if s<m then s else m:=rfl
theorem mD (o:Option Int) (os:Sn) (a:Int):yF (o::os) a=yF os (zOf a o):=rfl
theorem zPd (m:Int) (o:Option Int):zOf m o<=m:=by
 cases o with
 | none=>exact Int.le_refl _
 | some s=>grind [zAs]
theorem zDG (os:Sn):∀a,yF os a<=a:=by
 induction os with
 | nil=>intro a;exact Int.le_refl _
 | cons o os ih=>intro a;rw [mD];exact Int.le_trans (ih _) (zPd _ _)
theorem jA {os:Sn} {s:Int} (h:some s∈os) (a:Int):yF os a<=s:=by
 induction os generalizing a with
 | nil=>cases h
 | cons o os ih =>
 rw [mD]
 rcases List.mem_cons.1 h with e|h
 ·subst e;refine Int.le_trans (zDG _ _) ?_
  grind [zAs]
 grind
theorem zCf (os:Sn):∀a,yF os a=a∨some (yF os a)∈os:=by
 induction os with
 | nil=>intro a;exact Or.inl rfl
 | cons o os ih =>
 intro a;rw [mD]
 rcases ih (zOf a o) with h|h
 ·rw [h]
  cases o with
  | none=>exact Or.inl rfl
  | some s=>grind [zAs]
 grind
theorem zJ2 (os:Sn) (f:Int):zPN os f=true↔∃s,some s∈os/\s<f:=by grind [zPN]
theorem zKn (os:Sn) (f:Int):zPN os f=decide (yF os f<f):=by
 rw [Bool.eq_iff_iff,zJ2,decide_eq_true_iff];constructor
 ·rintro ⟨s,a,h⟩;have:=jA a f;omega
 grind [zCf]
theorem zIS (os:Sn) (x:Int):yW (os++[some x])=yW os+1:=by grind [yW]
theorem zH4:∀(os:Sn) (i:Nat) (h:i<os.length),yW (os.set i none)+(if (os[i]).isSome then 1 else 0)=yW os
 | o::os,0,_=>by grind [yW]
 | o::os,i+1,h=>by grind [yW]
theorem zGa (os:Sn) (x:Int):yW (yJ os x)+(if (atQ os x).isSome then 1 else 0)=yW os:=by
 cases hq:atQ os x with
 | none=>rw [zBD hq];simp
 | some s =>
 have b:1<=x:=Classical.byContradiction fun h=>by grind [atQ]
 have a:(x-1).toNat<os.length:=Classical.byContradiction fun h=>by
  unfold atQ at hq
  simp_all
 have c:os[(x-1).toNat]=some s:=by
  unfold atQ at hq;rw [if_pos b,List.getElem?_eq_getElem a] at hq;exact hq
 have:=zH4 os (x-1).toNat a
 grind [yJ]
def OkQ (os:Sn) (fl:Int):Prop:=(0<=fl/\fl<=18446744073709551615)/\∀s,some s∈os->fl<=s/\s<=18446744073709551615
theorem zMn {os:Sn} {fl a:Int} (h:OkQ os fl) (b:fl<=a):fl<=yF os a:=by
 rcases zCf os a with e|e
 ·omega
 exact (h.2 _ e).1
theorem zGB {os:Sn} {fl a:Int}:mI os fl (yF os a)=if yF os a<fl then (8,fl) else (0,yF os a):=by
 unfold mI
 split
 ·rfl
 rw [if_neg];intro h;obtain ⟨s,b,k⟩:=(zJ2 _ _).1 h;have:=jA b a;omega
end
section
structure Tx where
 snap:Int
 ended:Bool
 marks:Mk
 wr:List yI
 deriving Inhabited
structure Sv where
 vers:Int
 D:List zQ
 last:Int
 tick:Int
 floor:Int
 tk:Tk
 txs:List Tx
def sA:Int:=18446744073709551615
def xM (S:Sv):Sn:=S.txs.map fun x=>if x.ended then none else some x.snap
def zZ (S:Sv):Int:=yF (xM S) S.last
def zX (S:Sv) (i:Nat) (x:Tx):Sv:={ S with txs:=S.txs.set i x }
def sI (vers most tries:Int):Bool:=decide (1<=vers)&&decide (vers<=4096)&&decide (0<=most)&&decide (most<=64)&&decide (1<=tries)&&decide (tries<=8)
def zK2 (vers most first:Int):Sv:=⟨vers,[],first,0,0,zDP most,[]⟩
def qR (s:Int):Tx:=⟨s,false,([],[]),[]⟩
def wR (S:Sv):Sv:={ S with txs:=S.txs++[qR S.last] }
def xX (now n:Int):Int:=if n<1 then now else if 1099511627776-now<=n then 1099511627776 else now+n
def zHP (S:Sv):Sv:={ S with floor:=zZ S,D:=vK S.D (zZ S) }
def tK (D:List zQ) (s:Int) (k:Ky):Option Vr:=atV (ofD D k) s
def isS (D:List zQ) (x:Tx) (k:Ky):Option Vr:=match yE x.wr k with
 | none=>tK D x.snap k
 | some e=>some ⟨((tK D x.snap k).getD zeroV).num+1,0,0,xK (some e),jR (some e)⟩
def zJb (D:List zQ) (x:Tx) (typ:ByteArray):List Ky:=((xY x.wr).filter fun k=>decide (k.1=typ)).foldl (fun acc k=>qM yR k acc) (tQ D typ)
def zHA (D:List zQ) (x:Tx) (P:List Fld->Bool) (k:Ky):Option Fnd:=match isS D x k with
 | some v=>if v.live&&P v.val then some (k,v) else none
 | none=>none
def fJ (D:List zQ) (x:Tx) (typ:ByteArray) (P:List Fld->Bool):List Fnd:=(zJb D x typ).filterMap (zHA D x P)
def zPU (D:List zQ) (s:Int) (y:yI):Ch:=⟨y.1,((tK D s y.1).getD zeroV).live,((tK D s y.1).getD zeroV).val,xK (some y.2),jR (some y.2)⟩
def zD (D:List zQ) (x:Tx):List Ch:=if x.ended then [] else x.wr.map (zPU D x.snap)
def tX (D:List zQ) (fl sn:Int) (typ:ByteArray) (s:Int):List Fnd × Int:=if s<fl then ([],8) else ((zQv D typ s).filter (fun x=>decide (x.2.stamp<=sn)),0)
def pK (x:Tx) (k:Ky):Tx:={ x with marks:=jM x.marks k }
def zHy (x:Tx) (typ:ByteArray) (p:List Tm):Tx:={ x with marks:=sQ x.marks (typ,p) }
def tD (D:List zQ) (x:Tx) (k:Ky):(Option Vr × Int) × Tx:=if x.ended then ((none,12),x) else if xI k.1 k.2=false then ((none,2),x) else ((isS D x k,if (isS D x k).isSome then 0 else 6),pK x k)
def sK (D:List zQ) (x:Tx) (typ:ByteArray) (p:List Tm):(List Fnd × Int) × Tx:=if x.ended then (([],12),x) else if pY p≠0 then (([],pY p),x) else ((fJ D x typ (zP (xS p)),0),zHy x typ (xS p))
def xZ (x:Tx) (k:Ky) (v:List Fld):Int × Tx:=if x.ended then (12,x) else (tB k v,{ x with wr:=mG x.wr k v })
def vU (D:List zQ) (x:Tx) (k:Ky):Int × Tx :=
 if x.ended then (12,x) else if xI k.1 k.2=false then (2,x)
 else if ((isS D x k).getD zeroV).live=false then (6,pK x k)
 else if ((tK D x.snap k).getD zeroV).live=false then (0,{ pK x k with wr:=qZ x.wr k })
 else (0,{ pK x k with wr:=nM x.wr k none })
def nB (x:Tx):Tx:=if x.ended then x else { x with wr:=[] }
def atS (D:List zQ) (fl:Int) (x:Tx) (t:Int) (k:Ky):(Option Vr × Int) × Tx :=
 if x.ended then ((none,12),x) else if xI k.1 k.2=false then ((none,2),x)
 else (sJ D fl x.snap t k,if (sJ D fl x.snap t k).2≠8/\x.snap<t then pK x k else x)
def nR (D:List zQ) (fl:Int) (x:Tx) (t:Int) (typ:ByteArray) (p:List Tm):(List Fnd × Int) × Tx :=
 if x.ended then (([],12),x) else if pY p≠0 then (([],pY p),x)
 else (wN D fl x.snap t typ (zP (xS p)),if (wN D fl x.snap t typ (zP (xS p))).2≠8/\x.snap<t then zHy x typ (xS p) else x)
def nH (D:List zQ) (fl:Int) (x:Tx) (k:Ky) (s:Int):(List Vr × Int) × Tx :=
 if x.ended then (([],12),x) else if xI k.1 k.2=false then (([],2),x)
 else (wM D fl x.snap k s,if (wM D fl x.snap k s).2≠8 then pK x k else x)
def sN (D:List zQ) (fl:Int) (x:Tx) (typ:ByteArray) (s:Int):(List Fnd × Int) × Tx :=
 if x.ended then (([],12),x)
 else (tX D fl x.snap typ s,if (tX D fl x.snap typ s).2≠8 then zHy x typ [] else x)
def wW (D:List zQ) (x:Tx) (k:Ky) (n:Int):(Option Vr × Int) × Tx :=
 if x.ended then ((none,12),x) else if xI k.1 k.2=false then ((none,2),x)
 else (uG (ofD D k) x.snap n,if (uG (ofD D k) x.snap n).2=6 then pK x k else x)
def sH (x:Tx):Mk:=if x.ended then ([],[]) else x.marks
def yX (D:List zQ) (ch:List Ch) (n tick:Int):List zQ:=ch.foldl (fun D c=>nV D c.key n tick c.il c.is) D
def uU (D:List zQ) (s:Int) (c:Ch):Bool:=decide (s<(yG (ofD D c.key)).stamp)
def qK (S:Sv) (i:Nat) (x:Tx) (ch:List Ch) (out:Bool):Int × Sv :=
 let S1:=zX S i { x with ended:=true }
 let S2:=if ch=[] then S1 else { S1 with last:=S.last+1,D:=yX S.D ch (S.last+1) S.tick }
 (if ch=[] then 0 else S.last+1,if ch=[]/\x.marks=([],[]) then S2 else { S2 with tk:=uP (qJ S2.tk ⟨x.snap,S2.last,out,x.marks,ch⟩).2 (zZ S2) })
def yB (S:Sv) (i:Nat) (x:Tx):(Int × Int) × Sv :=
 if x.ended then ((0,12),S)
 else if (zD S.D x).any (uU S.D x.snap) then ((0,11),zX S i { x with ended:=true })
 else if (yO S.tk x.snap x.marks (zD S.D x)).2≠0 then ((0,11),zX S i { x with ended:=true })
 else if zD S.D x≠[]/\S.vers<(zT S.D:Int)+((zD S.D x).length:Int) then ((0,9),zX S i { x with ended:=true })
 else if zD S.D x≠[]/\S.last=sA then ((0,10),zX S i { x with ended:=true })
 else (((qK S i x (zD S.D x) (yO S.tk x.snap x.marks (zD S.D x)).1).1,0),(qK S i x (zD S.D x) (yO S.tk x.snap x.marks (zD S.D x)).1).2)
def qT (S:Sv) (i:Nat) (x:Tx):Bool × Sv:=(!x.ended,zX S i { x with ended:=true })
structure O15 where
 kind:Int
 x:Int
 key:Ky
 val:List Fld
 pred:List Tm
 t:Int
 n:Int
structure R15 where
 ver:Vr:=zeroV
 found:List Fnd:=[]
 vers:List Vr:=[]
 e:Int:=0
 stamp:Int:=0
 nums:List Int:=[]
 ok:Bool:=false
 marks:Mk:=([],[])
 chg:List Ch:=[]
def nW (S:Sv) (i:Nat) (x:Tx) (o:O15):R15 × Sv :=
 if o.kind=2 then ({ ver:=(tD S.D x o.key).1.1.getD zeroV,e:=(tD S.D x o.key).1.2 },zX S i (tD S.D x o.key).2)
 else if o.kind=3 then ({ found:=(sK S.D x o.key.1 o.pred).1.1,e:=(sK S.D x o.key.1 o.pred).1.2 },zX S i (sK S.D x o.key.1 o.pred).2)
 else if o.kind=4 then ({ e:=(xZ x o.key o.val).1 },zX S i (xZ x o.key o.val).2)
 else if o.kind=5 then ({ e:=(vU S.D x o.key).1 },zX S i (vU S.D x o.key).2)
 else if o.kind=6 then ({},zX S i (nB x))
 else if o.kind=7 then ({ ver:=(atS S.D S.floor x o.t o.key).1.1.getD zeroV,e:=(atS S.D S.floor x o.t o.key).1.2 },zX S i (atS S.D S.floor x o.t o.key).2)
 else if o.kind=8 then ({ found:=(nR S.D S.floor x o.t o.key.1 o.pred).1.1,e:=(nR S.D S.floor x o.t o.key.1 o.pred).1.2 },zX S i (nR S.D S.floor x o.t o.key.1 o.pred).2)
 else if o.kind=9 then ({ vers:=(nH S.D S.floor x o.key o.t).1.1,e:=(nH S.D S.floor x o.key o.t).1.2 },zX S i (nH S.D S.floor x o.key o.t).2)
 else if o.kind=10 then ({ found:=(sN S.D S.floor x o.key.1 o.t).1.1,e:=(sN S.D S.floor x o.key.1 o.t).1.2 },zX S i (sN S.D S.floor x o.key.1 o.t).2)
 else if o.kind=11 then ({ ver:=(wW S.D x o.key o.n).1.1.getD zeroV,e:=(wW S.D x o.key o.n).1.2 },zX S i (wW S.D x o.key o.n).2)
 else if o.kind=12 then ({ marks:=sH x },S)
 else if o.kind=13 then ({ chg:=zD S.D x },S)
 else if o.kind=14 then ({ stamp:=(yB S i x).1.1,e:=(yB S i x).1.2 },(yB S i x).2)
 else if o.kind=15 then ({ ok:=(qT S i x).1 },(qT S i x).2)
 else ({},S)
end
section
section
variable {D:List zQ} {fl s n tick last:Int} {l:List Vr} {k:Ky} {ch:List Ch} {S:Sv} {x:Tx}
theorem sY (x:Fnd):∀l:List Fnd,(sZ x l).Perm (x::l)
 | []=>List.Perm.refl _
 | y::l=>by
  unfold sZ
  split
  ·exact ((sY x l).cons y).trans (List.Perm.swap x y l)
  simp_all
theorem cS:∀(l b:List Fnd),(l.foldl (fun a x=>sZ x a) b).Perm (b++l)
 | [],b=>by simp
 | x::l,b=>by
  rw [List.foldl_cons];refine (cS l _).trans ?_;refine ((sY x b).append_right l).trans ?_;exact (List.perm_middle (a:=x) (l₁:=b) (l₂:=l)).symm
theorem fI (x:Fnd):∀l:List Fnd,jY l->(∀y∈l,y.2.stamp=x.2.stamp->yR x.1 y.1=false)->jY (sZ x l)
 | [],_,_=>List.pairwise_singleton _ _
 | y::l,h,hx=>by
  obtain ⟨d,b⟩:=List.pairwise_cons.1 h;unfold sZ
  split
  ·next hle =>
   refine List.pairwise_cons.2 ⟨fun z a=>?_,fI x l b fun z a=>hx z (List.mem_cons_of_mem _ a)⟩
   grind [sY,mA]
  next hle =>
  have c:x.2.stamp<y.2.stamp:=by omega
  refine List.pairwise_cons.2 ⟨fun z a=>?_,h⟩
  grind [zB5]
theorem zAS:∀(l c:List Fnd),jY c->l.Pairwise (fun a b=>a.2.stamp=b.2.stamp->yR b.1 a.1=false)->(∀y∈c,∀x∈l,y.2.stamp=x.2.stamp->yR x.1 y.1=false)->jY (l.foldl (fun a x=>sZ x a) c)
 | [],_,h,_,_=>h
 | x::l,c,h,hp,hx=>by
  obtain ⟨f,e⟩:=List.pairwise_cons.1 hp;rw [List.foldl_cons];refine zAS l _ (fI x c h fun y d=>hx y d x List.mem_cons_self) e fun y d z g=>?_
  grind [sY]
theorem zGm (h:OkD D) (typ:ByteArray) (t:Int):(wH D typ t).Pairwise fun a b=>a.2.stamp=b.2.stamp->yR b.1 a.1=false:=by
 unfold wH
 induction D with
 | nil=>exact List.Pairwise.nil
 | cons r d i =>
 have ih':=i h.tail;rw [List.filter_cons]
 split
 ·rw [List.flatMap_cons,List.pairwise_append];refine ⟨List.pairwise_map.2 ?_,ih',fun a g b c _=>?_⟩
  ·exact (zA8 (h.ok r List.mem_cons_self).1.rise _).imp fun {a b} hab e=>by grind
  obtain ⟨v,_,rfl⟩:=List.mem_map.1 g;obtain ⟨r',hr',c⟩:=List.mem_flatMap.1 c;obtain ⟨u,_,rfl⟩:=List.mem_map.1 c;have f:yR r.1 r'.1=true:=(List.pairwise_cons.1 h.rise).1 r'.1 (List.mem_map.2 ⟨r',(List.mem_filter.1 hr').1,rfl⟩)
  cases hq:yR r'.1 r.1 with
  | false=>rfl
  | true =>
  have:=wX.tr _ _ _ f hq;rw [wX.irr] at this;cases this
 exact ih'
theorem zNo (h:OkD D) (typ:ByteArray) (t:Int):(zQv D typ t).Perm (wH D typ t)/\jY (zQv D typ t) :=
 ⟨by have:=cS (wH D typ t) [];rwa [List.nil_append] at this,zAS _ _ List.Pairwise.nil (zGm h typ t) fun y a=>by cases a⟩
theorem zIA (h:OkD D) (fl a:Int) (typ:ByteArray) (s:Int):wB D fl a typ s (tX D fl a typ s):=by
 unfold wB tX
 by_cases hs:s<fl
 ·rw [if_pos hs,if_pos hs]
 rw [if_neg hs,if_neg hs]
 grind [zNo]
theorem zMZ (h:OkD D) {fl a:Int} {typ:ByteArray} {s:Int} {L:List Fnd × Int} (b:wB D fl a typ s L):L=tX D fl a typ s:=zJK h b (zIA h fl a typ s) fun _=>List.Perm.refl _
theorem zKs (h:l≠[]):yG l∈l:=by
 have a:0<l.length:=List.length_pos_iff.2 h;rw [uF a];exact List.getElem_mem _
theorem zPL (h:OkV l) {s:Int} (hs:(yG l).stamp<=s):(atV l s).getD zeroV=yG l:=by
 by_cases hn:l=[]
 ·subst hn;rfl
 have a:0<l.length:=List.length_pos_iff.2 hn
 have b:vF l s=l.length:=by
  refine zAr h.rise (Nat.le_refl _) (fun i hi _=>?_) (fun i hi c=>by omega);rw [uF a] at hs
  rcases Nat.lt_or_ge i (l.length-1) with q|q
  ·have:=zBj h.rise q (by omega);omega
  grind
 unfold atV;rw [b,if_neg (by omega),List.getElem?_eq_getElem (by omega),uF a];rfl
structure jW (D:List zQ) (n:Int) (ch:List Ch):Prop where
 nd:(ch.map Ch.key).Nodup
 code:∀c∈ch,wQ D c.key n c.il c.is=0
theorem zJw {c:Bool} {a:List Fld} (d:wQ D k n c a=0) (b:Ky):ofD (nV D k n tick c a) b=if b=k then pA (ofD D k) n tick c a else ofD D b:=by
 unfold nV;rw [if_pos d,bN]
theorem zOH {E:List zQ} (h:ofD D k=ofD E k) (n:Int) (b:Bool) (a:List Fld):wQ D k n b a=wQ E k n b a:=by
 unfold wQ;rw [h]
theorem jW.tail {c:Ch} (h:jW D n (c::ch)):jW (nV D c.key n tick c.il c.is) n ch:=by
 have b:=List.nodup_cons.1 h.nd;refine ⟨b.2,fun d a=>?_⟩;rw [zOH (E:=D)]
 ·exact h.code d (List.mem_cons_of_mem _ a)
 rw [zJw (h.code c List.mem_cons_self),if_neg]
 grind
theorem zEI {n tick:Int}:∀{ch:List Ch} {D:List zQ},jW D n ch->∀k,ofD (yX D ch n tick) k=match ch.find? (fun c=>decide (c.key=k)) with|some c=>pA (ofD D k) n tick c.il c.is|none=>ofD D k
 | [],_,_,_=>rfl
 | c::ch,D,h,k=>by
  have b:=List.nodup_cons.1 h.nd;have a:=zEI (n:=n) (tick:=tick) (h.tail (tick:=tick)) k;have e:yX D (c::ch) n tick=yX (nV D c.key n tick c.il c.is) ch n tick:=rfl;rw [e,a,zJw (h.code c List.mem_cons_self)]
  grind
theorem gS (b:0<=n):∀{ch:List Ch} {D:List zQ},OkD D->jW D n ch->OkD (yX D ch n tick)
 | [],_,h,_=>h
 | c::ch,D,h,hp=>by
  refine gS (ch:=ch) b ?_ (hp.tail (tick:=tick));have a:=hp.code c List.mem_cons_self;show OkD (nV D c.key n tick c.il c.is);unfold nV;rw [if_pos a];refine zJl h c.key (zMT (mX h c.key) b (old:=8) (field:=3) (none:=6) (may:=yU c.is) (by decide) (by decide) (by decide) ?_) (zJa _ _ _ _ _);unfold wQ at a
  split at a
  ·exact a
  cases a
theorem bO {n tick:Int} (a:0<=n):∀{ch:List Ch} {D:List zQ},OkD D->jW D n ch->zT (yX D ch n tick)=zT D+ch.length
 | [],_,_,_=>rfl
 | c::ch,D,h,hp=>by
  have i:=hp.code c List.mem_cons_self;have f:OkD (nV D c.key n tick c.il c.is):=gS a (ch:=[c]) h ⟨by simp,fun d g=>by grind⟩;have j:=bO a (ch:=ch) (tick:=tick) f (hp.tail (tick:=tick));have e:yX D (c::ch) n tick=yX (nV D c.key n tick c.il c.is) ch n tick:=rfl;have b:=pT c.key (pA (ofD D c.key) n tick c.il c.is) h;rw [zG8] at b
  grind [nV]
theorem zCr (hs:s<n):∀(ch:List Ch) (D E:List zQ),zNH s D E->zNH s (yX D ch n tick) E
 | [],_,_,h=>h
 | c::ch,_,_,h=>zCr hs ch _ _ (zOF h c.key hs tick c.il c.is)
theorem zK7 (b:0<=n) (h:OkD D) (a:jW D n ch) (hs:s<n) {t:Int} (c:t<=s) (k:Ky):atV (ofD (yX D ch n tick) k) t=atV (ofD D k) t :=
 zQh (mX (gS b h a) k).rise (zCr hs ch D D (zLh s D) k).1 c
structure OkX (D:List zQ) (fl last:Int) (x:Tx):Prop where
 lo:0<=x.snap
 hi:x.snap<=last
 fl:x.ended=false->fl<=x.snap
 wr:OkW x.wr
 dead:x.ended=false->∀k,yE x.wr k=some none->((tK D x.snap k).getD zeroV).live=true
structure OkS (S:Sv):Prop where
 dir:OkD S.D
 low:∀k,∀v∈ofD S.D k,v.stamp<=S.last
 key:∀k,ofD S.D k≠[]->xI k.1 k.2=true
 may:∀k,∀v∈ofD S.D k,yU v.val=true
 fl0:0<=S.floor
 fl:S.floor<=S.last
 top:S.last<=sA
 tick:0<=S.tick/\S.tick<=1099511627776
 tk:OkT S.tk
 tkl:∀s,S.tk.last=some s->s<=S.last
 txs:∀x∈S.txs,OkX S.D S.floor S.last x
 cnt:(zT S.D:Int)<=S.vers
theorem zPV {b c first:Int} (a:0<=b) (g:0<=first) (f:first<=sA):OkS (zK2 b c first) :=
 ⟨zJp,(fun k v a=>by cases a),(fun k e=>absurd rfl e),(fun k v a=>by cases a),Int.le_refl _,g,f,⟨Int.le_refl 0,show (0:Int)<=1099511627776 by decide⟩,zJx c,(fun s d=>by cases d),(fun x h=>by cases h),a⟩
theorem zKf (h:OkS S):OkS (wR S):=by
 refine ⟨h.dir,h.low,h.key,h.may,h.fl0,h.fl,h.top,h.tick,h.tk,h.tkl,fun x a=>?_,h.cnt⟩
 rcases List.mem_append.1 a with a|a
 ·exact h.txs x a
 rw [List.mem_singleton.1 a];have e:=h.fl0;have d:=h.fl;exact ⟨by show 0<=S.last;omega,Int.le_refl _,fun _=>d,⟨List.Pairwise.nil,(fun y b=>by cases b),(fun y b=>by cases b)⟩,fun _ k c=>by cases c⟩
theorem zBb (h:OkS S) (i:Nat) {x:Tx} (b:OkX S.D S.floor S.last x):OkS (zX S i x):=by
 refine ⟨h.dir,h.low,h.key,h.may,h.fl0,h.fl,h.top,h.tick,h.tk,h.tkl,fun y a=>?_,h.cnt⟩
 rcases List.mem_or_eq_of_mem_set a with a|rfl
 ·exact h.txs y a
 exact b
theorem zFF (h:OkX D fl last x):OkX D fl last { x with ended:=true }:=⟨h.lo,h.hi,fun e=>(by cases e),h.wr,fun e=>(by cases e)⟩
theorem zFW (h:OkX D fl last x) (m:Mk):OkX D fl last { x with marks:=m }:=⟨h.lo,h.hi,h.fl,h.wr,h.dead⟩
theorem zGL:some s∈xM S↔∃x∈S.txs,x.ended=false/\x.snap=s:=by grind [xM]
theorem zKS (h:OkS S):OkQ (xM S) S.floor:=by
 have e:=h.fl;have d:=h.top;unfold sA at d;refine ⟨⟨h.fl0,by omega⟩,fun s a=>?_⟩;obtain ⟨x,c,b,rfl⟩:=zGL.1 a;have:=h.txs x c;exact ⟨this.fl b,by have:=this.hi;omega⟩
theorem zEU (h:OkS S):S.floor<=zZ S:=zMn (zKS h) h.fl
theorem zLd (S:Sv):zZ S<=S.last:=zDG _ _
theorem zBP (b:x∈S.txs) (a:x.ended=false):zZ S<=x.snap:=jA (zGL.2 ⟨x,b,a,rfl⟩) _
theorem zEQ {f:Int} {v:Vr} (h:v∈vP l f):v∈l:=List.mem_of_mem_drop h
theorem zPA (h:OkS S):OkS (zHP S):=by
 have i:=zEU h;have g:=zLd S;have j:=h.fl0;refine ⟨zDc h.dir _,fun k v d=>?_,fun k c=>?_,fun k v d=>?_,by show 0<=zZ S;omega,g,h.top,h.tick,h.tk,h.tkl,fun x f=>?_,?_⟩
 ·have hv':v∈ofD (vK S.D (zZ S)) k:=d;rw [nY] at hv';exact h.low k v (zEQ hv')
 ·have hk':ofD (vK S.D (zZ S)) k≠[]:=c;rw [nY] at hk';exact h.key k fun e=>hk' (by rw [e];rfl)
 ·have hv':v∈ofD (vK S.D (zZ S)) k:=d;rw [nY] at hv';exact h.may k v (zEQ hv')
 ·have a:=h.txs x f;refine ⟨a.lo,a.hi,fun b=>zBP f b,a.wr,fun b k c=>?_⟩;have:=a.dead b k c;show ((atV (ofD (vK S.D (zZ S)) k) x.snap).getD zeroV).live=true;rw [nY,zO6 (mX h.dir k).rise (zBP (S:=S) f b)];exact this
 have m:=cP S.D (zZ S);have:=h.cnt;show (zT (vK S.D (zZ S)):Int)<=S.vers;omega
theorem zOe (h:OkS S) (n:Int):OkS { S with tick:=xX S.tick n }:=by
 refine ⟨h.dir,h.low,h.key,h.may,h.fl0,h.fl,h.top,?_,h.tk,h.tkl,h.txs,h.cnt⟩;have:=h.tick
 grind [xX]
end
end
section
section
variable {x:Tx} {S:Sv} {i:Nat}
section
variable {D:List zQ} {fl last:Int} {x:Tx}
theorem zP7 (h:OkX D fl last x) (k:Ky) (v:List Fld):OkX D fl last (xZ x k v).2:=by
 unfold xZ
 split
 ·exact h
 refine ⟨h.lo,h.hi,h.fl,zOx h.wr k v,fun c a b=>?_⟩;have hk':yE (mG x.wr k v) a=some none:=b;rw [zNm] at hk'
 split at hk'
 ·cases hk'
 exact h.dead c a hk'
theorem zIP (h:OkX D fl last x) (k:Ky):OkX D fl last (vU D x k).2:=by
 unfold vU
 split
 ·exact h
 split
 ·exact h
 next c hk =>
 split
 ·exact zFW h _
 split
 ·refine ⟨h.lo,h.hi,h.fl,zEw h.wr k,fun c b d=>?_⟩;have a:yE (qZ x.wr k) b=some none:=d;rw [kG] at a
  split at a
  ·cases a
  exact h.dead c b a
 next hl =>
 refine ⟨h.lo,h.hi,h.fl,zFE h.wr k none (by grind) (fun v f=>by cases f),fun c b d=>?_⟩;have a:yE (nM x.wr k none) b=some none:=d;rw [kP] at a
 split at a
 ·next e =>
  subst e;show ((tK D x.snap b).getD zeroV).live=true
  grind
 exact h.dead c b a
theorem zOP (h:OkX D fl last x):OkX D fl last (nB x):=by
 unfold nB
 split
 ·exact h
 exact ⟨h.lo,h.hi,h.fl,zJN,fun _ k a=>by cases a⟩
end
theorem zEZ {D:List zQ} (a:x.ended=false):(zD D x).map Ch.key=xY x.wr:=by
 unfold zD xY;rw [if_neg (by rw [a];simp),List.map_map];rfl
theorem zHS {L:List yI} (h:L.Pairwise fun x y=>yR x.1 y.1=true):(xY L).Nodup:=by
 unfold xY
 exact List.pairwise_map.2 (h.imp fun {a b} hab e=>by
  have e':a.1=b.1:=e;rw [e',wX.irr] at hab
  cases hab)
theorem zPc (h:OkS S) {x:Tx} (a:OkX S.D S.floor S.last x) (e:x.ended=false) (f:(zD S.D x).any (uU S.D x.snap)=false):jW S.D (S.last+1) (zD S.D x):=by
 refine ⟨by rw [zEZ e];exact zHS a.wr.rise,fun c b=>?_⟩
 have k:uU S.D x.snap c=false:=by
  rw [List.any_eq_false] at f
  simpa using f c b
 have l:(yG (ofD S.D c.key)).stamp<=x.snap:=by
  have:=of_decide_eq_false k;omega
 unfold zD at b;rw [if_neg (by rw [e];simp)] at b;obtain ⟨y,d,rfl⟩:=List.mem_map.1 b;have j:=a.wr.key y d;have q:=h.fl0;have n:=h.fl;have p:=a.hi;unfold wQ;rw [if_pos (by exact j)];show mY 8 3 6 (yU (jR (some y.2))) (ofD S.D y.1) (S.last+1) (xK (some y.2))=0;unfold mY;have hlt':(yG (ofD S.D y.1)).stamp<=x.snap:=l;rw [if_neg (by omega)]
 cases hw:y.2 with
 | some v =>
  have o:=a.wr.may y d v hw
  grind [xK,jR]
 | none =>
 rw [if_neg (by simp [xK]),if_neg];have m:yE x.wr y.1=some none:=by rw [gD a.wr.rise d,hw]
 have g:=a.dead e y.1 m;unfold tK at g;rw [zPL (mX h.dir y.1) hlt'] at g
 grind
theorem zOY {ch:List Ch} {k:Ky} {c:Ch} (h:ch.find? (fun c=>decide (c.key=k))=some c):c∈ch/\c.key=k:=⟨List.mem_of_find?_eq_some h,by grind⟩
theorem zNe {t:Tk} {d:Dn} {s:Int} (h:(qJ t d).2.last=some s):t.last=some s∨s=d.stamp:=by grind [qJ,sD]
theorem zNn (h:OkS S) {i:Nat} {x:Tx} (l:OkX S.D S.floor S.last x) (B:x.ended=false) (H:(zD S.D x).any (uU S.D x.snap)=false) (d:zD S.D x≠[]->((zT S.D:Int)+((zD S.D x).length:Int))<=S.vers/\S.last≠sA) (G:Bool):OkS (qK S i x (zD S.D x) G).2:=by
 have u:=zBb h i (zFF l);have j:=zPc h l B H;have C:=h.fl0;have M:=h.fl;have P:=h.top
 have w:∀c∈zD S.D x,(xI c.key.1 c.key.2=true)/\(c.il=true->yU c.is=true):=fun c g=>by
  unfold zD at g;rw [if_neg (by rw [B];simp)] at g;obtain ⟨y,r,rfl⟩:=List.mem_map.1 g;refine ⟨l.wr.key y r,fun O=>?_⟩
  cases hw:y.2 with
  | none=>grind [zPU,xK]
  | some v =>
  have:=l.wr.may y r v hw
  grind [zPU,jR]
 have e:OkS (if zD S.D x=[] then zX S i { x with ended:=true } else { zX S i { x with ended:=true } with last:=S.last+1,D:=yX S.D (zD S.D x) (S.last+1) S.tick }):=by
  split
  ·exact u
  next hne =>
  obtain ⟨Q,N⟩:=d hne;have p:(0:Int)<=S.last+1:=by omega
  have K:=gS (tick:=S.tick) p h.dir j
  have o:∀k,∀v∈ofD (yX S.D (zD S.D x) (S.last+1) S.tick) k,v∈ofD S.D k∨(v.stamp=S.last+1/\yU v.val=true/\xI k.1 k.2=true):=fun k v d=>by
   rw [zEI j] at d
   split at d
   ·next c g =>
    obtain ⟨A,E⟩:=zOY g;unfold pA at d
    rcases List.mem_append.1 d with d|d
    ·exact Or.inl d
    rw [List.mem_singleton.1 d];refine Or.inr ⟨rfl,?_,by rw [<-E];exact (w c A).1⟩;show yU (if c.il then c.is else [])=true
    split
    ·next hil=>exact (w c A).2 hil
    rfl
   exact Or.inl d
  refine ⟨K,fun k v d=>?_,fun k n=>?_,fun k v d=>?_,C,by show S.floor<=S.last+1;omega,by grind,h.tick,h.tk,fun s m=>?_,fun z I=>?_,?_⟩
  ·show v.stamp<=S.last+1
   rcases o k v d with q|q
   ·have:=h.low k v q;omega
   omega
  ·obtain ⟨v,d⟩:=List.exists_mem_of_ne_nil _ n
   rcases o k v d with q|q
   ·exact h.key k (List.ne_nil_of_mem q)
   grind
  ·rcases o k v d with q|q
   ·exact h.may k v q
   grind
  ·show s<=S.last+1
   have:=h.tkl s m;omega
  ·have f:=u.txs z I;have L:z.snap<=S.last:=f.hi;refine ⟨f.lo,by grind,f.fl,f.wr,fun J k n=>?_⟩;have:=f.dead J k n;show ((atV (ofD (yX S.D (zD S.D x) (S.last+1) S.tick) k) z.snap).getD zeroV).live=true;rw [zK7 p h.dir j (s:=S.last) (by omega) L];exact this
  show (zT (yX S.D (zD S.D x) (S.last+1) S.tick):Int)<=S.vers
  rw [bO p h.dir j];omega
 have F:(0:Int)<=(if zD S.D x=[] then zX S i { x with ended:=true } else { zX S i { x with ended:=true } with last:=S.last+1,D:=yX S.D (zD S.D x) (S.last+1) S.tick }).last:=by
  have a:=e.fl0;have b:=e.fl;omega
 unfold qK;simp only
 generalize (if zD S.D x=[] then zX S i { x with ended:=true } else { zX S i { x with ended:=true } with last:=S.last+1,D:=yX S.D (zD S.D x) (S.last+1) S.tick })=S2 at *
 split
 ·exact e
 refine ⟨e.dir,e.low,e.key,e.may,e.fl0,e.fl,e.top,e.tick,zCI (zFI e.tk _ F) _,fun s m=>?_,e.txs,e.cnt⟩
 rcases zNe (t:=S2.tk) m with q|q
 ·exact e.tkl s q
 grind
theorem zH7 (h:OkS S) {i:Nat} {x:Tx} (a:OkX S.D S.floor S.last x):OkS (yB S i x).2:=by grind [yB,zBb,zFF,zNn]
end
end
section
open Go.RowKit
def sW (w:World) (g o:Nat):Nat->List Value->World
 | _,[]=>w
 | k,u::r=>sW (w.setCell ⟨g,o+k,none⟩ u) g o (k+1) r
def zJJ (o:Nat):Nat->List Value->List Value->List Value
 | _,[],xs=>xs
 | k,u::r,xs=>zJJ o (k+1) r (xs.set (o+k) u)
theorem zGX (o:Nat):∀(k:Nat) (us a:List Value) (j:Nat),o+k+us.length<=a.length->(zJJ o k us a)[j]? = if o+k<=j/\j<o+k+us.length then us[j-(o+k)]? else a[j]?
 | k,[],a,j,_=>by grind [zJJ]
 | k,u::r,a,j,h=>by
  unfold zJJ;rw [List.length_cons] at h;rw [zGX o (k+1) r _ j (by grind),List.getElem?_set]
  grind
theorem zC.cells_setL {α:Type} (K:zC α) (d:List α) (i:Nat) (h:i<d.length) (x:α):K.cells (d.set i x)=zJJ (i * K.k) 0 (K.enc x) (K.cells d):=by
 apply List.ext_getElem?
 intro j;have a:(i+1) * K.k<=d.length * K.k:=Nat.mul_le_mul_right _ h;rw [Nat.add_mul,Nat.one_mul] at a;rw [K.cells_set d i h x j,zGX _ _ _ _ _ (by rw [K.len,K.cells_len];omega),K.len,Nat.add_zero]
theorem jK {N:Nat} {e:TypeId} {b g n c o:Nat}:∀(k:Nat) (us a:List Value) (w:World),w.ownsRow N e b (.slice (some ⟨g,0,none⟩) n c) n a->(sW w g o k us).ownsRow N e b (.slice (some ⟨g,0,none⟩) n c) n (zJJ o k us a)
 | _,[],_,_,h=>h
 | k,u::r,a,w,h=>by
  unfold sW zJJ;exact jK (k+1) r _ _ (World.ownsRow.stored h (o+k) u).1
end
section
open Go.RowKit
theorem zCS (W:World):wJ W (.slice none 0 0) []/\xB []/\xJ []:=⟨⟨none,0,rfl,Or.inl rfl,fun _ h=>by simp at h⟩,⟨by grind,fun _ h=>by simp at h⟩,⟨by simp,fun _ h=>by simp at h⟩⟩
end
section
open Go.RowKit
def zEp (fs:List Fd):Prop:=fs.Pairwise fun x y=>∀k,zHX x.v k->¬ zHX y.v k
def dE (w:World) (l:List Fnd) (e:Ending) (w':World):Prop :=
 ∃u fs,e=.returned u/\KFd.Own w.heap.size w' u fs/\(∀f∈fs,zW w.heap.size w' f.v.sl f.v.o/\xB f.v.o)/\zEp fs/\fs.map Fd.fnd=l/\Below w.heap.size w w'
end
section
open Go.RowKit
def kA (W:World) (L:List yI) (k:Ky) (e:Ending) (w':World):Prop :=
 ∃p c o,e=.returned (.tuple #[.slice p o.length c,.bool (xK (yE L k)),.bool (yE L k).isSome])/\zW W.heap.size w' (.slice p o.length c) o/\o.map Fx.fld=jR (yE L k)/\Below W.heap.size W w'
def zDB (W:World) (l:List Ky) (e:Ending) (w':World):Prop:=∃u,e=.returned u/\KK.Own W.heap.size w' u l/\Below W.heap.size W w'
end
end Go.Proofs.YtkhljboeffhciaaGreat
