/- A part of the proof. -/
import Derived.Test.YtkhljboeffhciaaGreatPe
import Derived.Deep.CutBlock
set_option maxHeartbeats 40000000
set_option maxRecDepth 100000
set_option linter.unusedSimpArgs false
open Go.RowKit Go.Proofs.Tryz
namespace Go.Proofs.YtkhljboeffhciaaGreat
section
open Go.RowKit Go.Lib
section
variable {n0 g n:Nat} {D:List zQ} {W:World}
def zGb (W:World) (r:List Vr × Int) (e:Ending) (w':World):Prop:=∃u o,e=.returned (.tuple #[u,.int .i64 r.2])/\KV.Own W.heap.size w' u o/\(∀x∈o,zW W.heap.size w' x.sl x.o/\yZ (x.o.map Fx.fld)=true)/\o.map Vx.ver=r.1/\Below W.heap.size W w'
def NwF (W:World) (r:List Fnd × Int) (e:Ending) (w':World):Prop:=∃u fs,e=.returned (.tuple #[u,.int .i64 r.2])/\KFd.Own W.heap.size w' u fs/\(∀f∈fs,zW W.heap.size w' f.v.sl f.v.o/\yZ (f.v.o.map Fx.fld)=true)/\fs.map Fd.fnd=r.1/\Below W.heap.size W w'
theorem zQA {l:List Vr} {t:Int} {v:Vr} (h:atV l t=some v):v∈l:=by grind [atV]
theorem nM (g:Nat) (fl b t:Int) (W:World):CC 141 #[.pointer (some ⟨g,0,none⟩),sM fl b,.int .u64 t] W fun e c=>e=.returned (.int .i64 (if t<fl then 8 else 0))/\Below W.heap.size W c:=by
 have a:Hid (Bw W (W.alloc (.cells #[iu fl,iu b] 175))):=zaQ;unfold sM
 by_cases h:t<fl
 ·rw [xae h];go_enter func141,ntmps141;go_wp2_with fail;go_ret;exact ⟨rfl,a.o⟩
 rw [xag h];go_enter func141,ntmps141;go_wp2_with fail;go_ret;exact ⟨rfl,a.o⟩
theorem zE5 (W:World) (fl a t:Int):CC 93 #[sM fl a,.int .u64 t] W fun e c=>e=.returned (.bool (decide (a<t)))/\Below W.heap.size W c:=by
 have b:Hid (Bw W (W.alloc (.cells #[iu fl,iu a] 175))):=zaQ;unfold sM;go_enter func93,ntmps93;go_wp2_with fail;go_ret;exact ⟨rfl,b.o⟩
theorem zAX:∀args w,(callFunc 142 args).run prog w=.ok (.enter 142 args) w:=xaR func142 (by kernel_rfl) rfl
theorem cH:∀args w,(callFunc 145 args).run prog w=.ok (.enter 145 args) w:=xaR func145 (by kernel_rfl) rfl
theorem zLq (x:Vx) (B:Nat) (fl a:Int) (W:World) (b:W.heap[B]? = some (.cells #[.int .u64 fl,.int .u64 a] 175 (0,0))):CC 142 (#[.agg (zF x).toArray] ++ #[.pointer (some ⟨B,0,none⟩)]) W fun e k=>e=.returned (.bool (decide (a<x.stamp)))/\Below W.heap.size W k:=by
 have c:Hid (Bw W (W.alloc (.cells (zF x).toArray 42))):=zaQ;have p:=(gA b).1;have r:(W.alloc (.cells (zF x).toArray 42)).cell? (aa B 1)=some (iu a):=by rw [zaC ((c.o.block B p).trans b)];rfl
 have q:W.cell? (aa B 1)=some (iu a):=cz b;obtain ⟨h,j,f,d,i,m,l⟩:=x;simp only [zF,Vx.sl] at *;show CC 142 #[.agg #[ii h,iu j,ii f,.bool d,sc i l.length m],jp B] W _;go_enter func142,ntmps142;go_wp2_with fail;go_ret;exact ⟨rfl,c.o⟩
theorem zJ5 (x:Fd) (B:Nat) (fl a:Int) (W:World) (b:W.heap[B]? = some (.cells #[.int .u64 fl,.int .u64 a] 175 (0,0))):CC 145 (#[.agg (zN x).toArray] ++ #[.pointer (some ⟨B,0,none⟩)]) W fun e m=>e=.returned (.bool (decide (a<x.v.stamp)))/\Below W.heap.size W m:=by
 have c:Hid (Bw W (W.alloc (.cells (zN x).toArray 171))):=zaQ;have r:=(gA b).1;have t:(W.alloc (.cells (zN x).toArray 171)).cell? (aa B 1)=some (iu a):=by rw [zaC ((c.o.block B r).trans b)];rfl
 have s:W.cell? (aa B 1)=some (iu a):=cz b;obtain ⟨j,k,h,l,f,d,i,q,p⟩:=x;simp only [zN,zF,Vx.sl] at *;show CC 145 #[.agg #[tq j,tq k,ii h,iu l,ii f,.bool d,sc i p.length q],jp B] W _;go_enter func145,ntmps145;go_wp2_with fail;go_ret;exact ⟨rfl,c.o⟩
theorem zER (a s:Int):(!decide (a<s))=decide (s<=a):=by grind
theorem zNb (B N:Nat) (fl a:Int) (u:Value) (o:List Vx) (w:World) (h:KV.Own N w u o) (p:o.length<=2400000000000) (r:∀x∈o,zW N w x.sl x.o/\yZ (x.o.map Fx.fld)=true) (C:B<N) (A:w.heap[B]? = some (.cells #[.int .u64 fl,.int .u64 a] 175 (0,0))) (j:N<=w.heap.size):CC 143 #[u,.func (.func 142) #[] #[.pointer (some ⟨B,0,none⟩)]] w fun e d =>
   ∃u' o',e=.returned u'/\KV.Own N d u' o'/\(∀x∈o',zW N d x.sl x.o/\yZ (x.o.map Fx.fld)=true)/\o'.map Vx.ver=(o.map Vx.ver).filter (fun v=>decide (v.stamp<=a))/\Below N w d:=by
 rcases h.2 with ⟨rfl,y⟩|⟨g,q,H,rfl,E,_⟩
 ·obtain rfl:=List.length_eq_zero_iff.1 y;refine (zM2 (fun x=>decide (a<x.stamp)) _ _ zAX w).mono ?_;rintro e d ⟨rfl,hb'⟩;exact ⟨_,[],rfl,zC.own_nil _ _ _,(fun x f=>by cases f),rfl,hb'.mono j⟩
 refine (zKi (fun x=>decide (a<x.stamp)) _ _ zAX N g o.length q o w h p fun W x z _=>zLq x B fl a W ((z.block B (by omega) (by grind)).trans A)).mono ?_;rintro e d ⟨m,rfl,s,l⟩;refine ⟨_,_,rfl,s,fun x f=>?_,?_,(Fr.of_grown l (P:=fun b=>b=g) fun k i=>by grind).below j fun k i=>by omega⟩
 ·have hx':=r x (List.mem_filter.1 f).1;refine ⟨yC hx'.1 (mP l) fun k i e=>?_,hx'.2⟩;obtain ⟨G,F,t,c⟩:=tE hx'.1 i;obtain ⟨c2,h4⟩:=zV h (k:=k) e;rw [t] at h4;injection h4 with h4
  injection h4 with _ h4 _
  rcases c with c|c
  ·exact absurd (c.symm.trans h4) (by decide)
  exact absurd (c.symm.trans h4) (by decide)
 rw [List.filter_map]
 congr 1
 congr 1
 funext x
 exact zER a x.stamp
theorem zOw (B N:Nat) (fl a:Int) (u:Value) (o:List Fd) (w:World) (h:KFd.Own N w u o) (p:o.length<=2400000000000) (r:∀x∈o,zW N w x.v.sl x.v.o/\yZ (x.v.o.map Fx.fld)=true) (C:B<N) (A:w.heap[B]? = some (.cells #[.int .u64 fl,.int .u64 a] 175 (0,0))) (j:N<=w.heap.size):CC 146 #[u,.func (.func 145) #[] #[.pointer (some ⟨B,0,none⟩)]] w fun e d =>
   ∃u' o',e=.returned u'/\KFd.Own N d u' o'/\(∀x∈o',zW N d x.v.sl x.v.o/\yZ (x.v.o.map Fx.fld)=true)/\o'.map Fd.fnd=(o.map Fd.fnd).filter (fun v=>decide (v.2.stamp<=a))/\Below N w d:=by
 rcases h.2 with ⟨rfl,y⟩|⟨g,q,H,rfl,E,_⟩
 ·obtain rfl:=List.length_eq_zero_iff.1 y;refine (zLT (fun x=>decide (a<x.v.stamp)) _ _ cH w).mono ?_;rintro e d ⟨rfl,hb'⟩;exact ⟨_,[],rfl,zC.own_nil _ _ _,(fun x f=>by cases f),rfl,hb'.mono j⟩
 refine (zLt (fun x=>decide (a<x.v.stamp)) _ _ cH N g o.length q o w h p fun W x z _=>zJ5 x B fl a W ((z.block B (by omega) (by grind)).trans A)).mono ?_;rintro e d ⟨m,rfl,s,l⟩;refine ⟨_,_,rfl,s,fun x f=>?_,?_,(Fr.of_grown l (P:=fun b=>b=g) fun k i=>by grind).below j fun k i=>by omega⟩
 ·have hx':=r x (List.mem_filter.1 f).1;refine ⟨yC hx'.1 (mP l) fun k i e=>?_,hx'.2⟩;obtain ⟨G,F,t,c⟩:=tE hx'.1 i;obtain ⟨c2,h4⟩:=zV h (k:=k) e;rw [t] at h4;injection h4 with h4
  injection h4 with _ h4 _
  rcases c with c|c
  ·exact absurd (c.symm.trans h4) (by decide)
  exact absurd (c.symm.trans h4) (by decide)
 rw [List.filter_map]
 congr 1
 congr 1
 funext x
 exact zER a x.v.stamp
theorem zJK (l:List Vr) (t:Int) (p:Vr->Bool):((vK l t).filter p).length<=l.length:=by grind [vK]
theorem zK8 (h:uP n0 g n D W) (L:n<=1760000000000) (fl a t:Int) (typ:ByteArray) (q:Option Addr) (m:Nat) (b:List Tm) (E:KM.Is W (.slice q b.length m) b) (M:qZ b):CC 94 #[.pointer (some ⟨g,0,none⟩),sM fl a,.int .u64 t,.string typ,.slice q b.length m] W fun e J=>NwF W (wW D fl a t typ (zR b)) e J:=by
 obtain ⟨s,d,v⟩:=zEU W #[iu fl,iu a] 175;obtain ⟨V,hV⟩:=eE (W.alloc (.cells #[iu fl,iu a] 175));obtain ⟨Q,hQ⟩:=eE W.heap.size;rw [hV] at s d v;rw [hQ] at d;have H:=hid hQ;have A:=hid h;have i:=hid (nM g fl a t V);have O:V.cell? (aa Q 0)=some (iu fl):=cz d;have N:V.cell? (aa Q 1)=some (iu a):=cz d;have G:=hid d;have j:=hid s;have K:=hid E;have I:=hid M;have y:=hid v;unfold sM at *
 by_cases hlow:t<fl
 ·have r:Hid (wW D fl a t typ (zR b)=([],8)):=by show _=_;unfold wW;rw [xae hlow]
  rw [r.o];rw [xae hlow] at i;go_enter func94,ntmps94;go_wp2_with fail;(try rw [hV]);(try rw [hQ]);go_wp2_with fail;refine i.o.mono ?_;rintro e k ⟨rfl,l⟩;have c:Hid (Bw W k):=zA j.o j.o.size l;go_wp2_with fail
  go_ret2
  exact ⟨_,[],rfl,zC.own_nil _ _ _,(fun x C=>by cases C),rfl,c.o⟩
 have r:Hid (wW D fl a t typ (zR b)=(xK D typ (min t a) (zR b),0)):=by show _=_;unfold wW;rw [xag hlow]
 rw [r.o];rw [xag hlow] at i;go_enter func94,ntmps94;go_wp2_with fail;(try rw [hV]);(try rw [hQ]);go_wp2_with fail;refine i.o.mono ?_;rintro e k ⟨rfl,l⟩;have p:Bw W k:=zA j.o j.o.size l;have F:=(l.block Q (by have:=y.o;have:=H.o;omega)).trans G.o;have P:k.cell? (aa Q 1)=some (iu a):=cz F;have z:=hid (zNZ (A.o.on p) L typ (min t a) q m b (zC.is_kept K.o p) I.o);have c:=hid p;go_wp2_with fail;refine z.o.mono ?_;rintro e w2 ⟨u,fs,rfl,q1,q2,q3,q4⟩;obtain ⟨up,uc,rfl⟩:=zC.own_shape q1;have B:Hid (NwF W (xK D typ (min t a) (zR b),0) (.returned (.tuple #[sc up fs.length uc,ii 0])) w2):=⟨_,fs,rfl,zC.own_weak q1 c.o.size,fun f w=>⟨zM (q2 f w).1 c.o.size,(q2 f w).2⟩,q3,zA c.o c.o.size q4⟩;go_wp2_with fail
 go_ret2
 exact B.o
theorem zLb (h:uP n0 g n D W) (hn:n<=1760000000000) (fl a:Int) (k:Ky) (s:Int) (M:yO k):CC 95 #[.pointer (some ⟨g,0,none⟩),sM fl a,.agg #[.string k.1,.string k.2],.int .u64 s] W fun e N=>zGb W (wR D fl a k s) e N:=by
 obtain ⟨C,i,p,r⟩:=zB2 W #[iu fl,iu a] #[tq k.1,tq k.2] 175 36;obtain ⟨V,hV⟩:=eE ((W.alloc (.cells #[iu fl,iu a] 175)).alloc (.cells #[tq k.1,tq k.2] 36));obtain ⟨Q,hQ⟩:=eE W.heap.size;rw [hV] at C i p r;rw [hQ] at i p r;have ac:=hid hQ;have y:=hid h
 have ab:(ofD D k).length<=1760000000000:=by
  have F:=h.few
  by_cases he:ofD D k=[]
  ·rw [he];simp
  have:=fQ h.ok List.length (seen:=[k]) (by simp) (fun x d=>by rw [List.mem_singleton.1 d];exact he);simp only [xaZ,List.map_nil,List.sum_cons,List.sum_nil] at this;have h2:(ofD D k).length<=zT D:=by unfold zT;simpa using this
  omega
 have l:=hid (nM g fl a s V);have a0:V.cell? (aa Q 0)=some (iu fl):=cz i;have a1:V.cell? (aa Q 1)=some (iu a):=cz i;have U:=hid i;have R:=hid p;have m:=hid C;have Z:=hid M;have t:=hid r;unfold sM at *
 by_cases hlow:s<fl
 ·have q:Hid (wR D fl a k s=([],8)):=by show _=_;unfold wR;rw [xae hlow]
  rw [q.o];rw [xae hlow] at l;go_enter func95,ntmps95;go_wp2_with fail;(try rw [hV]);(try rw [hQ]);go_wp2_with fail;refine l.o.mono ?_;rintro e b ⟨rfl,j⟩;have c:Hid (Bw W b):=zA m.o m.o.size j;go_wp2_with fail
  go_ret2
  exact ⟨_,[],rfl,zC.own_nil _ _ _,(fun x d=>by cases d),rfl,c.o⟩
 have q:Hid (wR D fl a k s=((vK (ofD D k) s).filter (fun v=>decide (v.stamp<=a)),0)):=by show _=_;unfold wR;rw [xag hlow]
 rw [q.o];rw [xag hlow] at l;go_enter func95,ntmps95;go_wp2_with fail;(try rw [hV]);(try rw [hQ]);go_wp2_with fail;refine l.o.mono ?_;rintro e b ⟨rfl,j⟩;have E:Bw W b:=zA m.o m.o.size j;have G:=(j.block Q (by have:=t.o;omega)).trans U.o;have B:=(j.block (Q+1) (by have:=t.o;omega)).trans R.o;have e1:b.cell? (aa (Q+1) 0)=some (tq k.1):=cz B;have e2:b.cell? (aa (Q+1) 1)=some (tq k.2):=cz B;have P:=hid (zPZ (y.o.on E) k Z.o s);have Y:=hid (y.o.may k);have c:=hid E;have X:=hid G;have A:Hid (Q<b.heap.size):=(gA G).1;go_wp2_with fail;refine P.o.mono ?_;rintro e w2 ⟨u,o,rfl,q1,q2,_,q3,q4⟩;obtain ⟨up,uc,rfl⟩:=zC.own_shape q1
 have O:o.length<=2400000000000:=by
  have F:=zJK (ofD D k) s fun _=>true
  rw [List.filter_eq_self.2 (fun _ _=>rfl),<-q3,zaM] at F;omega
 have w:=hid (zNb Q b.heap.size fl a _ o w2 q1 O (fun x d=>⟨q2 x d,Y.o x.ver (zBT (by rw [<-q3];exact List.mem_map.2 ⟨x,d,rfl⟩))⟩) A.o ((q4.block Q A.o).trans X.o) q4.size);rw [q3] at w;have L:=hid q4;go_wp2_with fail;refine w.o.mono ?_;rintro e w3 ⟨u',z,rfl,I,H,K,T⟩;obtain ⟨vp,vc,rfl⟩:=zC.own_shape I;have S:Hid (zGb W ((vK (ofD D k) s).filter (fun v=>decide (v.stamp<=a)),0) (.returned (.tuple #[sc vp z.length vc,ii 0])) w3):=⟨_,z,rfl,zC.own_weak I c.o.size,fun f J=>⟨zM (H f J).1 c.o.size,(H f J).2⟩,K,zA c.o c.o.size (L.o.trans T)⟩;go_wp2_with fail
 go_ret2
 exact S.o
theorem zJB (h:uP n0 g n D W) (S:n<=1760000000000) (fl a:Int) (typ:ByteArray) (s:Int):CC 96 #[.pointer (some ⟨g,0,none⟩),sM fl a,.string typ,.int .u64 s] W fun e N=>∃L,wJ D fl a typ s L/\NwF W L e N:=by
 obtain ⟨y,d,E⟩:=zEU W #[iu fl,iu a] 175;obtain ⟨V,hV⟩:=eE (W.alloc (.cells #[iu fl,iu a] 175));obtain ⟨Q,hQ⟩:=eE W.heap.size;rw [hV] at y d E;rw [hQ] at d;have ad:=hid hQ;have I:=hid h;have i:=hid (nM g fl a s V);have a0:V.cell? (aa Q 0)=some (iu fl):=cz d;have a1:V.cell? (aa Q 1)=some (iu a):=cz d;have ab:=hid d;have j:=hid y;have H:=hid E;have af:=h.few
 have U:Hid (∀r:List Fnd,r.Perm (wN D typ s)->r.length<=zT D):=fun r R=>by
  rw [R.length_eq,<-zB9 h.ok s typ];exact zCX h.ok s (zBZ h.ok typ) fun k M=>zB1 h.ok M
 unfold sM at *
 by_cases hlow:s<fl
 ·have m:Hid (wJ D fl a typ s ([],8)):=by show wJ _ _ _ _ _ _;unfold wJ;rw [xae hlow]
  rw [xae hlow] at i;go_enter func96,ntmps96;go_wp2_with fail;(try rw [hV]);(try rw [hQ]);go_wp2_with fail;refine i.o.mono ?_;rintro e c ⟨rfl,l⟩;have b:Hid (Bw W c):=zA j.o j.o.size l;go_wp2_with fail
  go_ret2
  exact ⟨([],8),m.o,_,[],rfl,zC.own_nil _ _ _,(fun x Z=>by cases Z),rfl,b.o⟩
 have m:Hid (∀r:List Fnd,r.Perm (wN D typ s)->fK r->wJ D fl a typ s (r.filter (fun x=>decide (x.2.stamp<=a)),0)):=fun r p O=>by
  unfold wJ;rw [xag hlow];exact ⟨rfl,r,p,O,rfl⟩
 rw [xag hlow] at i;go_enter func96,ntmps96;go_wp2_with fail;(try rw [hV]);(try rw [hQ]);go_wp2_with fail;refine i.o.mono ?_;rintro e c ⟨rfl,l⟩;have z:Bw W c:=zA j.o j.o.size l;have A:=(l.block Q (by have:=H.o;have:=ad.o;omega)).trans ab.o;have T:=hid (zSQ (I.o.on z) S typ s);have b:=hid z;have ac:=hid A;have w:Hid (Q<c.heap.size):=(gA A).1;go_wp2_with fail;refine T.o.mono ?_;rintro e w2 ⟨r,⟨u,o,rfl,q1,q2,q3,q4⟩,q5,q6⟩;obtain ⟨up,uc,rfl⟩:=zC.own_shape q1
 have P:o.length<=2400000000000:=by
  have p:=U.o r q5;rw [<-q3,zaM] at p;omega
 have q:=hid (zOw Q c.heap.size fl a _ o w2 q1 P q2 w.o ((q4.block Q w.o).trans ac.o) q4.size);rw [q3] at q;have K:=hid q4;have ae:=hid (m.o r q5 q6);go_wp2_with fail;refine q.o.mono ?_;rintro e G ⟨u',t,rfl,C,B,J,Y⟩;obtain ⟨vp,vc,rfl⟩:=zC.own_shape C;have X:Hid (NwF W (r.filter (fun v=>decide (v.2.stamp<=a)),0) (.returned (.tuple #[sc vp t.length vc,ii 0])) G):=⟨_,t,rfl,zC.own_weak C b.o.size,fun f F=>⟨zM (B f F).1 b.o.size,(B f F).2⟩,J,zA b.o b.o.size (K.o.trans Y)⟩;go_wp2_with fail
 go_ret2
 exact ⟨_,ae.o,X.o⟩
end
end
theorem qG {W:World} {g h:Nat} {a fl:Int} (n:W.cell? ⟨g,0,none⟩=some (.int .u64 a)) (D:W.cell? ⟨g,2,none⟩=some (.pointer (some ⟨h,0,none⟩))) (A:∀b,Below W.heap.size W b->CC 26 #[.pointer (some ⟨h,0,none⟩)] b fun e d=>e=.returned (.int .u64 fl)/\Below b.heap.size b d):CC 91 #[.pointer (some ⟨g,0,none⟩)] W fun e d=>e=.returned (sM fl a)/\Below W.heap.size W d:=by
 unfold sM;obtain ⟨V,i⟩:∃V,W.alloc (.cells #[iu 0,iu 0] 175)=V:=⟨_,rfl⟩;obtain ⟨M,hM⟩:∃M,W.z=M:=⟨_,rfl⟩;have E:V.heap[M]? = some (.cells #[iu 0,iu 0] 175 (0,0)):=by rw [<-i,<-hM];exact xab W _
 have m:Below W.z W V:=by rw [<-i];exact zaQ
 have L:V.z=M+1:=by rw [<-i,<-hM];simp
 have t:g<W.z:=zI n;have j:Hid (∀b,Below W.z W b->b.cell? (aa g 0)=some (iu a)/\b.cell? (aa g 2)=some (.pointer (some (aa h 0)))):=fun b q=>⟨(q.cell t).trans n,(q.cell t).trans D⟩
 have F:=hid (A (V.drewN 1) (zG m 1));have r:=hid m;have w:=hid E;obtain ⟨G,B⟩:=j.out V m;have I:=hid L;go_enter func91,ntmps91;go_upto_region 1 with fail
 (try rw [i]);(try rw [hM]);refine tkb (S:=fun d=>d.cell? (aa g 0)=some (iu a)/\d.cell? (aa g 2)=some (.pointer (some (aa h 0)))) ⟨G,B⟩ fun T=>?_;refine tkv4 0 1 2 3 (.pointer (some (aa g 0))) (.pointer (some (aa g 0))) (.pointer (some (aa g 2))) (.pointer (some (aa h 0))) T ?_;simp only [Act.put,sz];refine tkv4 5 6 7 8 (.pointer (some (aa g 0))) (.pointer (some (aa g 0))) (.pointer (some (aa g 0))) (iu a) T ?_;simp only [Act.put,sz];refine tkc 4 fun K k=>?_
 go_simp
 refine F.out.mono ?_;rintro P c ⟨rfl,J⟩;have p:Below V.z V c:=zA (zG (zaR V.z V) 1) (by simp) J;have l:Below W.z W c:=zA r.out r.out.size p;have x:=j.out c l;have f:c.heap[M]? = some (.cells #[iu 0,iu 0] 175 (0,0)):=(p.block M (by have:=I.out;omega)).trans w.out;obtain ⟨WZ,hWZ⟩:∃WZ,(c.setCell (aa M 0) (iu fl)).setCell (aa M 1) (iu a)=WZ:=⟨_,rfl⟩
 have o:WZ.heap[M]? = some (.cells #[iu fl,iu a] 175 (0,0)):=by
  rw [<-hWZ];exact xaa _ M 1 _ _ _ (xaa _ M 0 _ _ _ f)
 have s:Below W.z W WZ:=by
  rw [<-hWZ,hM];rw [hM] at l;exact (l.setCell (by simp) _).setCell (by simp) _
 have C:=j.out WZ s;have y:=hid s;have N:c.cell? (aa M 0)=some (iu 0):=cz f;have O:c.cell? (aa M 1)=some (iu 0):=cz f;have Q:c.frozen? (aa M 0)=false:=zaF f 0;have R:c.frozen? (aa M 1)=false:=zaF f 1;have H:WZ.cell? (aa M 0)=some (iu fl):=cz o;have u:WZ.cell? (aa M 1)=some (iu a):=cz o;refine k.out _ _ x (fun T=>?_)
 try simp only [Act.put,sz]
 refine tkv 9 (.agg #[iu fl,iu a]) T ?_;simp only [Act.put,sz];refine tkc 10 fun K k=>?_
 go_simp
 go_wp2_with fail
 (try rw [hWZ]);refine k.out _ _ C (fun T=>?_)
 try simp only [Act.put,sz]
 refine tkd ?_;go_wp2_with fail;exact zaB (v:=.agg #[iu fl,iu a]) (by simp [results,results91,go_sem,H,u]) rfl ⟨rfl,y.out⟩
def zAS (n0 nr:Nat) (W:World) (h:Nat) (gs:List Nat) (c:Nat->Nat) (S':Sv) (A:Nat) (w1 w':World):Prop:=∃c',zDa n0 nr w' h gs S' c'/\Fr (fun k=>c k≠0) W w'/\(∀k,k<W.heap.size->c' k=c k)/\W.heap.size<=A/\w1.heap.size<=w'.heap.size/\∀k,A<=k->k<w1.heap.size->c' k=0/\w'.heap[k]? = w1.heap[k]?
def XsH (n0 nr:Nat) (W:World) (h:Nat) (gs:List Nat) (c:Nat->Nat) (r:List Vr × Int) (S':Sv) (e:Ending) (w':World):Prop:=∃w0 w1,zGb w0 r e w1/\zAS n0 nr W h gs c S' w0.heap.size w1 w'
theorem zM4 (W:World) (a:Int):zGb W ([],a) (.returned (.tuple #[.slice none 0 0,.int .i64 a])) W:=⟨_,[],rfl,zC.own_nil _ _ _,(fun _ h=>by cases h),rfl,zaR _ _⟩
section
variable {n0 nr:Nat} {W w w1:World} {s s':Ps} {c c':Nat→Nat}
theorem Mid.stepB (m:Mid n0 nr W s c s' c' w) {a:Sv} (e:s'.sv=a) {A:Nat} (b:W.heap.size<=A) (hs:w1.heap.size<=w.heap.size) (d:∀k,A<=k->k<w1.heap.size->c' k=0/\w.heap[k]? = w1.heap[k]?):zAS n0 nr W s.h (s.xs.map Px.g) c a A w1 w:=by
 rw [<-e];exact ⟨c',m.sto,m.fr,m.lab,b,hs,d⟩
end
theorem zKe {n0 nr:Nat} {W:World} {s:Ps} {c:Nat->Nat} (x:zS n0 W s c) (f:xF nr s) (hn:nr<=1700000000000) {i:Nat} {y:Px} (hy:s.xs[i]? = some y) (k:Ky) (hk:yE k) (t:Int):CC 48 #[.pointer (some ⟨y.g,0,none⟩),.agg #[.string k.1,.string k.2],.int .u64 t] W fun e a=>XsH n0 (nr+1) W s.h (s.xs.map Px.g) c (nL s.D s.floor y.tx k t).1 (yA s.sv i (nL s.D s.floor y.tx k t).2) e a:=by
 obtain ⟨af,r,ac⟩:=tV W #[tq k.1,tq k.2] 36;obtain ⟨V,hV⟩:=eE (W.alloc (.cells #[tq k.1,tq k.2] 36));obtain ⟨Q,hQ⟩:=eE W.heap.size;rw [hV] at af r ac;rw [hQ] at r ac;have N:=hid af;have ab:Hid (V.heap.size=Q+1):=ac;have bo:Hid (W.heap.size=Q):=hQ;have j:=hid x;have P:=hid f;have O:=hid hy;have HK:=hid hk;have HN:=hid hn
 have ah:Hid (∀b:World,b.heap[Q]? = V.heap[Q]?->b.cell? (aa Q 0)=some (tq k.1)/\b.cell? (aa Q 1)=some (tq k.2)):=fun b hW=>by
  have n:=hW.trans r;exact ⟨by rw [zaC n];rfl,by rw [zaC n];rfl⟩
 obtain ⟨a0,a1⟩:=ah.o V rfl;have A:=hid (tW ((x.on af).endis hy) k hk);obtain ⟨RS,hRS⟩:=eE (nL s.D s.floor y.tx k t);rw [hRS];have ad:=hid hRS;obtain ⟨ka,kb⟩:=k;simp only at *
 have ai:Hid (y.ended=true->vR y.ended (ka,kb)=12/\RS=(([],12),y.tx)):=fun h=>by
  refine ⟨by rw [h];rfl,?_⟩;rw [<-ad.o];unfold nL;rw [xae (show y.tx.ended=true from h)]
 have Z:Hid (y.ended=false->xN ka kb=false->vR y.ended (ka,kb)=2/\RS=(([],2),y.tx)):=fun h h'=>by
  refine ⟨by grind [vR],?_⟩;rw [<-ad.o];unfold nL;rw [xag (show ¬ y.tx.ended=true by show ¬ y.ended=true;grind),xae h']
 have ae:Hid (y.ended=false->xN ka kb=true->vR y.ended (ka,kb)=0/\RS=(wR s.D s.floor y.snap (ka,kb) t,if (wR s.D s.floor y.snap (ka,kb) t).2≠8 then pU y.tx (ka,kb) else y.tx)):=fun h h'=>by
  refine ⟨by grind [vR],?_⟩;rw [<-ad.o];unfold nL;rw [xag (show ¬ y.tx.ended=true by show ¬ y.ended=true;grind),xag (by grind)];rfl
 obtain ⟨M,am⟩:=eE y.ended;obtain ⟨KB,hKB⟩:=eE (xN ka kb);have av:=hid am;rw [am] at A ai Z ae;rw [hKB] at Z ae;obtain ⟨g,hg⟩:=eE y.g;rw [hg] at A ⊢
 have bt:M=true∨KB=false->CC 48 #[jp g,.agg #[tq ka,tq kb],iu t] W fun e a=>XsH n0 (nr+1) W s.h (s.xs.map Px.g) c RS.1 (yA s.sv i RS.2) e a:=fun bb=>by
  obtain ⟨p,ay,br,ag⟩:∃p:Int,vR M (ka,kb)=p/\p≠0/\RS=(([],p),y.tx):=by
   cases hE:M with
   | true =>
    obtain ⟨n,F⟩:=ai.o hE;rw [hE] at n;exact ⟨12,n,by decide,F⟩
   | false =>
   rcases bb with h|h
   ·grind
   obtain ⟨n,F⟩:=Z.o hE h;rw [hE] at n;exact ⟨2,n,by decide,F⟩
  have I:Hid (RS=(([],p),y.tx)):=ag;rw [ay] at A;have bv:(p==0)=false:=by simpa using br
  go_enter func48,ntmps48
  go_upto_region 1 with fail
  (try rw [hV]);(try rw [hQ]);go_wp2_with fail;refine A.o.mono ?_;rintro e1 w1 ⟨rfl,G⟩
  have H:Hid (XsH n0 (nr+1) W s.h (s.xs.map Px.g) c RS.1 (yA s.sv i RS.2) (.returned (.tuple #[sc none 0 0,ii p])) w1):=by
   show XsH _ _ _ _ _ _ _ _ _ _
   rw [I.o];have ap:=zA N.o N.o.size G;exact ⟨w1,w1,zM4 w1 p,(Mid.start j.o P.o (xax nr) ap).stepB (xC (qU O.o)).symm ap.size (zaL _) fun k r J=>by omega⟩
  go_wp2_with fail
  exact zaB (v:=.tuple #[sc none 0 0,ii p]) (by simp [results,results48,go_sem]) rfl H.o
 cases M with
 | true=>grind
 | false =>
 cases KB with
 | false=>grind
 | true =>
 obtain ⟨bm,ag⟩:=ae.o rfl rfl;rw [bm] at A;have I:=hid ag
 have bq:Hid (∀w1,Bw W w1->CC 77 #[jp g,.agg #[tq ka,tq kb]] w1 fun e a=>∃T c',e=.returned (.tuple #[])/\T.mk'=kA y.m.mk' (ka,kb)/\Mid n0 (nr+1) W s c { s with xs:=s.xs.set i { y with m:=T } } c' a/\(∀k,k<w1.heap.size->c' k=c k)/\w1.heap.size<=a.heap.size/\∀k,k<w1.heap.size->k≠y.g->a.heap[k]? = w1.heap[k]?):=fun w1 hb=>by
  rw [<-hg];exact Mid.key j.o P.o (by have:=HN.o;omega) O.o av.o hb (ka,kb) HK.o
 have xa:=j.o.xat O.o av.o;obtain ⟨x0,_,x2,_,_,_⟩:=xa.xc
 have aq:Hid (g<Q):=by
  show g<Q
  rw [<-hQ,<-hg];exact (gA xa.x).1
 rw [hg] at x0 x2;have bp:=j.o.cells.1;have aw:g<W.heap.size:=by rw [hQ];exact aq.o
 have bl:s.h<W.heap.size:=j.o.lt;have Y:Hid (∀b,Bw W b->b.cell? (aa g 0)=some (iu y.snap)/\b.cell? (aa g 2)=some (jp s.h)/\b.cell? (aa s.h 0)=some (jp s.hd)):=fun b q=>⟨(q.cell aw).trans x0,(q.cell aw).trans x2,(q.cell bl).trans bp⟩
 have ak:Hid (∀b,Bw W b->CC 91 #[jp g] b fun e a=>e=.returned (sM s.floor y.snap)/\Bw b a):=fun b q=>by
  obtain ⟨q0,F,_⟩:=Y.o b q;refine qG q0 F fun W2 q'=>?_
  have xw:=j.o.on (zA q q.size q');obtain ⟨B,hT,_⟩:=xw.snp;exact tO xw.stat hT
 have az:Hid (∀b,Bw W b->CC 95 #[jp s.hd,.agg #[iu s.floor,iu y.snap],.agg #[tq ka,tq kb],iu t] b fun e a=>zGb b (wR s.D s.floor y.snap (ka,kb) t) e a):=fun b q=>zLb (j.o.on q).dirS (by have:=P.o.room;have:=HN.o;omega) s.floor y.snap (ka,kb) t HK.o
 unfold sM at ak;go_enter func48,ntmps48;go_upto_region 1 with fail
 (try rw [hV]);(try rw [hQ]);go_wp2_with fail;refine A.o.mono ?_;rintro e1 w1 ⟨rfl,G⟩;have ao:=zA N.o N.o.size G;obtain ⟨c0,c2,ch⟩:=Y.o w1 ao;have al:=hid G;have d:=hid ao;obtain ⟨b0,b1⟩:=ah.o w1 (G.block Q (by have:=ab.o;omega));go_upto_region 4 with fail
 refine tkb (S:=fun a=>(a.cell? (aa Q 0)=some (tq ka)/\a.cell? (aa Q 1)=some (tq kb))/\a.cell? (aa g 2)=some (jp s.h)/\a.cell? (aa s.h 0)=some (jp s.hd)) ⟨⟨b0,b1⟩,c2,ch⟩ fun w=>?_;refine tkv4 0 1 2 3 (jp g) (jp g) (.pointer (some (aa g 2))) (jp s.h) w ?_;simp only [Act.put,sz];refine tkv4 4 5 6 7 (jp s.h) (jp s.h) (jp s.h) (jp s.hd) w ?_;simp only [Act.put,sz];refine tkv3 8 10 11 (jp g) (.agg #[tq ka,tq kb]) (iu t) w ?_;simp only [Act.put,sz];have bk:=hid (ak.o (w1.drewN 1) (zG d.o 1))
 have an:Hid (∀a,Bw w1 a->(a.cell? (aa Q 0)=some (tq ka)/\a.cell? (aa Q 1)=some (tq kb))/\a.cell? (aa g 2)=some (jp s.h)/\a.cell? (aa s.h 0)=some (jp s.hd)):=fun a q=>by
  have hq:V.heap.size<=w1.heap.size:=al.o.size;obtain ⟨_,r2,r3⟩:=Y.o a (zA d.o d.o.size q);exact ⟨ah.o a ((q.block Q (by have:=ab.o;omega)).trans (al.o.block Q (by have:=ab.o;omega))),r2,r3⟩
 refine tkc 9 fun K hK=>?_
 go_simp
 refine bk.o.mono ?_;rintro e2 E ⟨rfl,bn⟩;have X:Bw w1 E:=zA (zG (zaR w1.heap.size w1) 1) (by simp) bn;have bh:=an.o E X;have bd:=hid (az.o E (zA d.o d.o.size X));have l:=hid X;refine hK.out _ _ bh (fun w=>?_)
 try simp only [Act.put,sz]
 refine tkc 12 fun K hK=>?_
 go_simp
 refine bd.o.mono ?_;rintro e3 z ⟨u,C,rfl,aj,bi,bc,R⟩;have U:Hid (zGb E (wR s.D s.floor y.snap (ka,kb) t) (.returned (.tuple #[u,ii (wR s.D s.floor y.snap (ka,kb) t).2])) z):=⟨u,C,rfl,aj,bi,bc,R⟩;obtain ⟨up,uc,rfl⟩:=zC.own_shape aj;have au:=an.o z (zA l.o l.o.size R);have ar:Bw W z:=zA d.o d.o.size (zA l.o l.o.size R);have bw:=hid R;have bj:=hid ar;have hS3':=au;obtain ⟨⟨b0,b1⟩,_⟩:=hS3';have ba:=hid (bq.o z ar);obtain ⟨PH,hPH⟩:=eE (wR s.D s.floor y.snap (ka,kb) t);rw [hPH] at U I;rw [hPH];obtain ⟨phl,phc⟩:=PH;simp only at *;refine hK.out _ _ au (fun w=>?_)
 try simp only [Act.put,sz]
 refine tkv3 13 14 16 (.tuple #[sc up C.length uc,ii phc]) (sc up C.length uc) (sc up C.length uc) w ?_;simp only [Act.put,sz];refine tkv2 15 17 (ii phc) (ii phc) w ?_;simp only [Act.put,sz];refine tkd ?_
 by_cases h8:phc=8
 ·subst h8
  have H:Hid (XsH n0 (nr+1) W s.h (s.xs.map Px.g) c RS.1 (yA s.sv i RS.2) (.returned (.tuple #[sc up C.length uc,ii 8])) z):=by
   show XsH _ _ _ _ _ _ _ _ _ _
   rw [I.o];refine ⟨E,z,U.o,(Mid.start j.o P.o (xax nr) bj.o).stepB ?_ (zaU d.o.size l.o.size) (zaL _) fun k r J=>⟨j.o.out k (zaU (zaU d.o.size l.o.size) r),rfl⟩⟩;rw [xag (by simp)];exact (xC (qU O.o)).symm
  go_wp2_with fail
  go_ret2
  exact H.o
 have bu:(phc==8)=false:=by simpa using h8
 have H8:=hid h8;go_wp2_with fail;refine ba.o.mono ?_;rintro e4 w4 ⟨T,c4,rfl,bf,bg,be,bs,ax⟩
 have H:Hid (XsH n0 (nr+1) W s.h (s.xs.map Px.g) c RS.1 (yA s.sv i RS.2) (.returned (.tuple #[sc up C.length uc,ii phc])) w4):=by
  show XsH _ _ _ _ _ _ _ _ _ _
  rw [I.o];refine ⟨E,z,U.o,bg.stepB ?_ (zaU d.o.size l.o.size) bs fun k r J=>⟨(be k J).trans (j.o.out k (zaU (zaU d.o.size l.o.size) r)),ax k J fun e=>?_⟩⟩
  ·rw [xae H8.o,uC];show yA s.sv i ⟨y.snap,y.ended,T.mk',y.L⟩=_;rw [bf];rfl
  have n:=aq.o;have F:=bo.o;have q3:=zaU d.o.size l.o.size;omega
 go_wp2_with fail
 go_ret2
 exact H.o
def XsF (n0 nr:Nat) (W:World) (h:Nat) (gs:List Nat) (c:Nat->Nat) (r:List Fnd × Int) (S':Sv) (e:Ending) (w':World):Prop:=∃w0 w1,NwF w0 r e w1/\zAS n0 nr W h gs c S' w0.heap.size w1 w'
theorem zCu (W:World) (a:Int):NwF W ([],a) (.returned (.tuple #[.slice none 0 0,.int .i64 a])) W:=⟨_,[],rfl,zC.own_nil _ _ _,(fun _ h=>by cases h),rfl,zaR _ _⟩
theorem zJH {n0 l:Nat} {W:World} {s:Ps} {c:Nat->Nat} (x:zS n0 W s c) (f:xF l s) (hn:l<=1700000000000) {i:Nat} {y:Px} (Q:s.xs[i]? = some y) (typ:ByteArray) (t:Int):CC 49 #[.pointer (some ⟨y.g,0,none⟩),.string typ,.int .u64 t] W fun e d=>XsF n0 (l+1) W s.h (s.xs.map Px.g) c (sS s.D s.floor y.tx typ t).1 (yA s.sv i (sS s.D s.floor y.tx typ t).2) e d:=by
 have j:=hid x;have E:=hid f;have H:=hid Q;have V:=hid hn;have G:=hid (x.endis Q W (zaR _ _));obtain ⟨n,ae⟩:=eE (sS s.D s.floor y.tx typ t);rw [ae];have ah:=hid ae
 have ab:Hid (y.ended=true->n=(([],12),y.tx)):=fun h=>by
  rw [<-ah.o];unfold sS;rw [xae (show y.tx.ended=true from h)]
 have ac:Hid (y.ended=false->n=(sF s.D s.floor y.snap typ t,if (sF s.D s.floor y.snap typ t).2≠8 then zHp y.tx typ [] else y.tx)):=fun h=>by
  rw [<-ah.o];unfold sS;rw [xag (show ¬ y.tx.ended=true by show ¬ y.ended=true;rw [h];decide)];rfl
 obtain ⟨EN,af⟩:=eE y.ended;have Z:=hid af;rw [af] at G ab ac;obtain ⟨g,hg⟩:=eE y.g;rw [hg] at G ⊢
 cases EN with
 | true =>
  have F:=hid (ab.o rfl)
  have C:Hid (XsF n0 (l+1) W s.h (s.xs.map Px.g) c n.1 (yA s.sv i n.2) (.returned (.tuple #[sc none 0 0,ii 12])) W):=by
   show XsF _ _ _ _ _ _ _ _ _ _
   rw [F.o];exact ⟨W,W,zCu W 12,(Mid.start j.o E.o (xax l) (zaR _ _)).stepB (xC (qU H.o)).symm (zaL _) (zaL _) fun k w v=>by omega⟩
  go_enter func49,ntmps49
  go_wp2_with fail
  refine G.o.mono ?_;rintro e1 a ⟨rfl,rfl⟩;go_wp2_with fail
  go_ret2
  exact C.o
 | false =>
 have F:=hid (ac.o rfl)
 have ay:Hid (∀a,Bw W a->CC 83 #[jp g,tq typ,sc none 0 0] a fun e d=>∃I c',e=.returned (.tuple #[])/\I.mk'=sU y.m.mk' (typ,[])/\Mid n0 (l+1) W s c { s with xs:=s.xs.set i { y with m:=I } } c' d/\(∀k,k<a.heap.size->c' k=c k)/\a.heap.size<=d.heap.size/\∀k,k<a.heap.size->k≠y.g->d.heap[k]? = a.heap[k]?):=fun a hb=>by
  rw [<-hg];exact Mid.range j.o E.o (by have:=V.o;omega) H.o Z.o hb typ (sc none 0 0) [] (KM.is_nil a) ⟨by unfold maxLen;simp,fun _ h=>by cases h⟩ rfl
 have X:=j.o.xat H.o Z.o;obtain ⟨U,_,Y,_,_,_⟩:=X.xc
 have T:Hid (g<W.heap.size):=by
  show g<W.heap.size
  rw [<-hg];exact (gA X.x).1
 rw [hg] at U Y;have az:=j.o.cells.1;have ad:g<W.heap.size:=T.o;have ak:s.h<W.heap.size:=j.o.lt;have J:Hid (∀b,Bw W b->b.cell? (aa g 0)=some (iu y.snap)/\b.cell? (aa g 2)=some (jp s.h)/\b.cell? (aa s.h 0)=some (jp s.hd)):=fun b q=>⟨(q.cell ad).trans U,(q.cell ad).trans Y,(q.cell ak).trans az⟩
 have ai:Hid (∀b,Bw W b->CC 91 #[jp g] b fun e d=>e=.returned (sM s.floor y.snap)/\Bw b d):=fun b q=>by
  obtain ⟨q0,q2,_⟩:=J.o b q;refine qG q0 q2 fun W2 q'=>?_
  have xw:=j.o.on (zA q q.size q');obtain ⟨B,hT,_⟩:=xw.snp;exact tO xw.stat hT
 have aq:Hid (∀b,Bw W b->CC 96 #[jp s.hd,.agg #[iu s.floor,iu y.snap],tq typ,iu t] b fun e d=>NwF b (sF s.D s.floor y.snap typ t) e d):=fun b q=>by
  refine (zJB (j.o.on q).dirS (by have:=E.o.room;have:=V.o;omega) s.floor y.snap typ t).mono ?_;rintro e d ⟨L,w,v⟩;rw [zOc E.o.ok.dir w] at v;exact v
 unfold sM at ai;go_enter func49,ntmps49;go_wp2_with fail;refine G.o.mono ?_;rintro e1 a ⟨rfl,rfl⟩;obtain ⟨c0,c2,ch⟩:=J.o a (zaR _ _);go_upto_region 3 with fail
 refine tkb (S:=fun d=>d.cell? (aa g 2)=some (jp s.h)/\d.cell? (aa s.h 0)=some (jp s.hd)) ⟨c2,ch⟩ fun hA=>?_;refine tkv4 0 1 2 3 (jp g) (jp g) (.pointer (some (aa g 2))) (jp s.h) hA ?_;simp only [Act.put,sz];refine tkv4 4 5 6 7 (jp s.h) (jp s.h) (jp s.h) (jp s.hd) hA ?_;simp only [Act.put,sz];refine tkv3 8 10 11 (jp g) (tq typ) (iu t) hA ?_;simp only [Act.put,sz];have aj:=hid (ai.o (a.drewN 1) (zG (zaR _ _) 1));refine tkc 9 fun K N=>?_
 go_simp
 refine aj.o.mono ?_;rintro e2 z ⟨rfl,ap⟩;have P:Bw a z:=zA (zG (zaR a.heap.size a) 1) (by simp) ap;have ba:=(J.o z P).2;have ar:=hid (aq.o z P);have r:=hid P;refine N.out _ _ ba (fun hA=>?_)
 try simp only [Act.put,sz]
 refine tkc 12 fun K N=>?_
 go_simp
 refine ar.o.mono ?_;rintro e3 p ⟨u,A,rfl,R,ao,bb,ag⟩;have M:Hid (NwF z (sF s.D s.floor y.snap typ t) (.returned (.tuple #[u,ii (sF s.D s.floor y.snap typ t).2])) p):=⟨u,A,rfl,R,ao,bb,ag⟩;obtain ⟨up,uc,rfl⟩:=zC.own_shape R;have O:Bw a p:=zA r.o r.o.size ag;have ax:=(J.o p O).2;have al:=hid O;have an:=hid (ay.o p O);obtain ⟨PH,hPH⟩:=eE (sF s.D s.floor y.snap typ t);rw [hPH] at M F;rw [hPH];obtain ⟨phl,phc⟩:=PH;simp only at *;refine N.out _ _ ax (fun hA=>?_)
 try simp only [Act.put,sz]
 refine tkv3 13 14 16 (.tuple #[sc up A.length uc,ii phc]) (sc up A.length uc) (sc up A.length uc) hA ?_;simp only [Act.put,sz];refine tkv2 15 17 (ii phc) (ii phc) hA ?_;simp only [Act.put,sz];refine tkd ?_
 by_cases h8:phc=8
 ·subst h8
  have C:Hid (XsF n0 (l+1) a s.h (s.xs.map Px.g) c n.1 (yA s.sv i n.2) (.returned (.tuple #[sc up A.length uc,ii 8])) p):=by
   show XsF _ _ _ _ _ _ _ _ _ _
   rw [F.o];refine ⟨z,p,M.o,(Mid.start j.o E.o (xax l) al.o).stepB ?_ r.o.size (zaL _) fun k w _=>⟨j.o.out k (zaU r.o.size w),rfl⟩⟩;rw [xag (by simp)];exact (xC (qU H.o)).symm
  go_wp2_with fail
  go_ret2
  exact C.o
 have bd:(phc==8)=false:=by simpa using h8
 have H8:=hid h8;go_wp2_with fail;refine an.o.mono ?_;rintro e4 w4 ⟨I,c4,rfl,aw,bc,au,av,am⟩
 have C:Hid (XsF n0 (l+1) a s.h (s.xs.map Px.g) c n.1 (yA s.sv i n.2) (.returned (.tuple #[sc up A.length uc,ii phc])) w4):=by
  show XsF _ _ _ _ _ _ _ _ _ _
  rw [F.o];refine ⟨z,p,M.o,bc.stepB ?_ r.o.size av fun k w v=>⟨(au k v).trans (j.o.out k (zaU r.o.size w)),am k v fun e=>?_⟩⟩
  ·rw [xae H8.o,uC];show yA s.sv i ⟨y.snap,y.ended,I.mk',y.L⟩=_;rw [aw];rfl
  have q1:=T.o;have q3:=r.o.size;omega
 go_wp2_with fail
 go_ret2
 exact C.o
theorem zLZ {n0 n:Nat} {W:World} {s:Ps} {c:Nat->Nat} (x:zS n0 W s c) (f:xF n s) (hn:n<=1700000000000) {i:Nat} {y:Px} (hy:s.xs[i]? = some y) (t:Int) (typ:ByteArray) (z:Option Addr) (w:Nat) (a:List Tm) (hp:KM.Is W (.slice z a.length w) a) (aw:qZ a) (bc:zR (xY a)=zR a):CC 47 #[.pointer (some ⟨y.g,0,none⟩),.int .u64 t,.string typ,.slice z a.length w] W fun e b=>XsF n0 (n+1) W s.h (s.xs.map Px.g) c (mB s.D s.floor y.tx t typ a).1 (yA s.sv i (mB s.D s.floor y.tx t typ a).2) e b:=by
 have l:=hid x;have Q:=hid f;have P:=hid hy;have HN:=hid hn;have ar:Hid (∀d,Bw W d->KM.Is d (sc z a.length w) a):=fun d q=>zC.is_kept hp q
 have ai:=hid aw;have M:=hid (zDG (x.endis hy) _ a hp aw);obtain ⟨r,aj⟩:=eE (mB s.D s.floor y.tx t typ a);rw [aj];have an:=hid aj
 have ae:Hid (zBO y.ended a≠0->r=(([],zBO y.ended a),y.tx)):=fun h=>by
  rw [<-an.o];unfold mB zBO at *
  by_cases he:y.ended=true
  ·rw [xae (show y.tx.ended=true from he),xae he]
  rw [xag he] at h;rw [xag (show ¬ y.tx.ended=true from he),xae h,xag he]
 have ao:Hid (zBO y.ended a=0->y.ended=false/\nJ a=0/\r=(wW s.D s.floor y.snap t typ (zR a),if (wW s.D s.floor y.snap t typ (zR a)).2≠8/\y.snap<t then zHp y.tx typ (xY a) else y.tx)):=fun h=>by
  rw [<-an.o];unfold mB;unfold zBO at h
  by_cases he:y.ended=true
  ·rw [xae he] at h;cases h
  rw [xag he] at h;rw [xag (show ¬ y.tx.ended=true from he),xag (show ¬ nJ a≠0 from fun q=>q h),bc];exact ⟨by simpa using he,h,rfl⟩
 obtain ⟨g,N⟩:=eE y.g;rw [N] at M ⊢;obtain ⟨cd,hcd⟩:=eE (zBO y.ended a);rw [hcd] at M ae ao
 by_cases hc0:cd=0
 ·subst hc0;obtain ⟨bf,bd,bi⟩:=ao.o rfl;have I:=hid bi;have aq:=hid bf
  have bm:Hid (∀j,Bw W j->CC 83 #[jp g,tq typ,sc z a.length w] j fun e b=>∃m' c',e=.returned (.tuple #[])/\m'.mk'=sU y.m.mk' (typ,xY a)/\Mid n0 (n+1) W s c { s with xs:=s.xs.set i { y with m:=m' } } c' b/\(∀k,k<j.heap.size->c' k=c k)/\j.heap.size<=b.heap.size/\∀k,k<j.heap.size->k≠y.g->b.heap[k]? = j.heap[k]?):=fun j hb=>by
   rw [<-N];exact Mid.range l.o Q.o (by have:=HN.o;omega) P.o aq.o hb typ _ a (ar.o j hb) ai.o bd
  have xa:=l.o.xat P.o aq.o;obtain ⟨x0,_,x2,_,_,_⟩:=xa.xc
  have ak:Hid (g<W.heap.size):=by
   show g<W.heap.size
   rw [<-N];exact (gA xa.x).1
  rw [N] at x0 x2;have bl:=l.o.cells.1;have ax:g<W.heap.size:=ak.o;have bg:s.h<W.heap.size:=l.o.lt;have ah:Hid (∀d,Bw W d->d.cell? (aa g 0)=some (iu y.snap)/\d.cell? (aa g 2)=some (jp s.h)/\d.cell? (aa s.h 0)=some (jp s.hd)):=fun d q=>⟨(q.cell ax).trans x0,(q.cell ax).trans x2,(q.cell bg).trans bl⟩
  have ac:Hid (∀d,Bw W d->CC 91 #[jp g] d fun e b=>e=.returned (sM s.floor y.snap)/\Bw d b):=fun d q=>by
   obtain ⟨q0,q2,_⟩:=ah.o d q;refine qG q0 q2 fun W2 q'=>?_
   have xw:=l.o.on (zA q q.size q');obtain ⟨B,hT,_⟩:=xw.snp;exact tO xw.stat hT
  have ay:Hid (∀d,Bw W d->CC 94 #[jp s.hd,.agg #[iu s.floor,iu y.snap],iu t,tq typ,sc z a.length w] d fun e b=>NwF d (wW s.D s.floor y.snap t typ (zR a)) e b):=fun d q=>zK8 (l.o.on q).dirS (by have:=Q.o.room;have:=HN.o;omega) s.floor y.snap t typ z w a (ar.o d q) ai.o
  unfold sM at ac;go_enter func47,ntmps47;go_wp2_with fail;refine M.o.mono ?_;rintro e1 j ⟨rfl,G⟩;have ad:=hid G;have bn:=hid (ac.o j G);go_wp2_with fail;refine bn.o.mono ?_;rintro e2 w2 ⟨rfl,hb2⟩;obtain ⟨R,hR⟩:=eE w2.heap.size;obtain ⟨X,hX⟩:=eE (w2.alloc (.cells #[iu s.floor,iu y.snap] 175));obtain ⟨hbX,hXo,hXs⟩:=tV w2 #[iu s.floor,iu y.snap] 175;rw [hX] at hbX hXo hXs;rw [hR] at hXo hXs;have au:Bw W X:=zA ad.o ad.o.size (zA hb2 hb2.size hbX);have J:=hid au
  have ag:Hid (∀b,Bw X b->(b.cell? (aa R 0)=some (iu s.floor)/\b.cell? (aa R 1)=some (iu y.snap))/\b.cell? (aa g 2)=some (jp s.h)/\b.cell? (aa s.h 0)=some (jp s.hd)):=fun b q=>by
   have Y:=(q.block R (by omega)).trans hXo;obtain ⟨_,r2,r3⟩:=ah.o b (zA J.o J.o.size q);exact ⟨⟨by rw [zaC Y];rfl,by rw [zaC Y];rfl⟩,r2,r3⟩
  have hS:=ag.o X (zaR _ _);have bj:=hid (ay.o (X.drewN 1) (zG au 1));go_upto_region 5 with fail
  (try rw [hX]);(try rw [hR]);obtain ⟨⟨v0,v1⟩,c2,ch⟩:=hS;refine tkb (S:=fun b=>(b.cell? (aa R 0)=some (iu s.floor)/\b.cell? (aa R 1)=some (iu y.snap))/\b.cell? (aa g 2)=some (jp s.h)/\b.cell? (aa s.h 0)=some (jp s.hd)) ⟨⟨v0,v1⟩,c2,ch⟩ fun hA=>?_;refine tkv4 0 1 2 3 (jp g) (jp g) (.pointer (some (aa g 2))) (jp s.h) hA ?_;simp only [Act.put,sz];refine tkv4 4 5 6 7 (jp s.h) (jp s.h) (jp s.h) (jp s.hd) hA ?_;simp only [Act.put,sz];refine tkv4 8 9 10 11 (.agg #[iu s.floor,iu y.snap]) (iu t) (tq typ) (sc z a.length w) hA ?_;simp only [Act.put,sz];refine tkc 12 fun K hK=>?_
  go_simp
  refine bj.o.mono ?_;rintro e3 p ⟨u,E,rfl,ab,bh,az,am⟩;have V:Hid (NwF (X.drewN 1) (wW s.D s.floor y.snap t typ (zR a)) (.returned (.tuple #[u,ii (wW s.D s.floor y.snap t typ (zR a)).2])) p):=⟨u,E,rfl,ab,bh,az,am⟩;obtain ⟨up,uc,rfl⟩:=zC.own_shape ab;have al:Bw X p:=zA (zG (zaR X.heap.size X) 1) (by simp) am;have ap:=ag.o p al;have hS3':=ap;obtain ⟨⟨v0,v1⟩,_⟩:=hS3';have U:=hid (zA J.o J.o.size al);have H:Hid (W.heap.size<=(X.drewN 1).heap.size):=by show _<=_;have:=J.o.size;simpa using this
  obtain ⟨PH,af⟩:=eE (wW s.D s.floor y.snap t typ (zR a));rw [af] at V I;rw [af];obtain ⟨phl,phc⟩:=PH;simp only at *;refine hK.out _ _ ap (fun hA=>?_)
  try simp only [Act.put,sz]
  refine tkv3 13 14 16 (.tuple #[sc up E.length uc,ii phc]) (sc up E.length uc) (sc up E.length uc) hA ?_;simp only [Act.put,sz];refine tkv2 15 17 (ii phc) (ii phc) hA ?_;simp only [Act.put,sz];refine tkd ?_
  have av:Hid (¬ (phc≠8/\y.snap<t)->∀C,Bw p C->XsF n0 (n+1) W s.h (s.xs.map Px.g) c r.1 (yA s.sv i r.2) (.returned (.tuple #[sc up E.length uc,ii phc])) C):=fun bb C v=>by
   rw [I.o];refine ⟨X.drewN 1,p,V.o,(Mid.start l.o Q.o (xax n) (zA U.o U.o.size v)).stepB ?_ H.o v.size fun k T O=>⟨l.o.out k (zaU H.o T),v.block k O⟩⟩;rw [xag bb];exact (xC (qU P.o)).symm
  by_cases h8:phc=8
  ·subst h8;have A:=hid (av.o (fun q=>q.1 rfl) p (zaR _ _));go_wp2_with fail
   go_ret2
   exact A.o
  have bp:(phc==8)=false:=by simpa using h8
  have H8:=hid h8;have F:=hid (zE5 p s.floor y.snap t);unfold sM at F
  by_cases hlt:y.snap<t
  ·rw [xas hlt] at F;have be:=hid hlt;go_wp2_with fail;refine F.o.mono ?_;rintro e4 C ⟨rfl,v⟩;have bk:=hid (bm.o C (zA U.o U.o.size v));have Z:=hid v;go_wp2_with fail;refine bk.o.mono ?_;rintro e5 w5 ⟨m',c4,rfl,hmk,hmid,hc4,hs4,hbk⟩
   have A:Hid (XsF n0 (n+1) W s.h (s.xs.map Px.g) c r.1 (yA s.sv i r.2) (.returned (.tuple #[sc up E.length uc,ii phc])) w5):=by
    show XsF _ _ _ _ _ _ _ _ _ _
    rw [I.o];have ba:=Z.o.size;refine ⟨X.drewN 1,p,V.o,hmid.stepB ?_ H.o (zaU ba hs4) fun k T O=>⟨(hc4 k (by omega)).trans (l.o.out k (zaU H.o T)),(hbk k (by omega) fun e=>?_).trans (Z.o.block k O)⟩⟩
    ·rw [xae ⟨H8.o,be.o⟩,uC];show yA s.sv i ⟨y.snap,y.ended,m'.mk',y.L⟩=_;rw [hmk];rfl
    have Y:=ak.o;have q3:=H.o;omega
   go_wp2_with fail
   go_ret2
   exact A.o
  rw [xar hlt] at F;have bo:=hid (av.o fun q=>hlt q.2);go_wp2_with fail;refine F.o.mono ?_;rintro e4 C ⟨rfl,v⟩;have A:=hid (bo.o C v);go_wp2_with fail
  go_ret2
  exact A.o
 have I:=hid (ae.o hc0);have bq:(cd==0)=false:=by simpa using hc0
 go_enter func47,ntmps47
 go_wp2_with fail
 refine M.o.mono ?_;rintro e1 j ⟨rfl,G⟩
 have A:Hid (XsF n0 (n+1) W s.h (s.xs.map Px.g) c r.1 (yA s.sv i r.2) (.returned (.tuple #[sc none 0 0,ii cd])) j):=by
  show XsF _ _ _ _ _ _ _ _ _ _
  rw [I.o];exact ⟨j,j,zCu j cd,(Mid.start l.o Q.o (xax n) G).stepB (xC (qU P.o)).symm G.size (zaL _) fun k T O=>by omega⟩
 go_wp2_with fail
 go_ret2
 exact A.o
theorem zDY (p:List Tm) (v:List Fld):zR (xY p) v=zR p v:=by
 unfold zR;rw [xaO,xbD,xbD]
 grind [jN]
section
variable {D:List zQ}
theorem zMD (o:OkD D) {x:Tx} (p:OkW x.wr) (typ:ByteArray) (P:List Fld->Bool):(wQ x.wr (xK D typ x.snap P) typ P).map (fun f=>(f.1,(isS D x f.1).getD zeroV))=cG D x typ P:=by
 have s:∀f,f∈wQ x.wr (xK D typ x.snap P) typ P↔(f∈xK D typ x.snap P/\yH x.wr f.1=none)∨f∈gW x.wr typ P:=fun f=>by grind [wQ,sI,zEL,Option.isNone_iff_eq_none]
 have K:∀f,f∈xK D typ x.snap P↔f.1.1=typ/\atV (ofD D f.1) x.snap=some f.2/\f.2.live=true/\P f.2.val=true:=fun f=>by
  unfold xK;rw [List.mem_filter,zAq o,xaP,xaQ]
  grind
 have J:∀f∈wQ x.wr (xK D typ x.snap P) typ P,f.1.1=typ/\∃v,isS D x f.1=some v/\v.live=true/\P v.val=true:=fun f n=>by
  rcases (s f).1 n with ⟨j,c⟩|j
  ·grind [isS,xT]
  obtain ⟨v,d,k,m,_⟩:=zBU j;have i:=fY p.rise d;refine ⟨k,⟨((xT D x.snap f.1).getD zeroV).num+1,0,0,true,v⟩,?_,rfl,m⟩;unfold isS;rw [show yH x.wr f.1=some (some v) from i];rfl
 have I:((wQ x.wr (xK D typ x.snap P) typ P).map Prod.fst).Nodup:=by
  have u:(wQ x.wr (xK D typ x.snap P) typ P).Perm (sI x.wr (xK D typ x.snap P)++gW x.wr typ P):=by
   unfold wQ nK
   have G:∀(l a:List (Ky × Vr)),(l.foldl (fun a x=>qM x a) a).Perm (a++l):=by
    intro l
    induction l with
    | nil=>intro a;simp
    | cons z l ih =>
    intro a
    have hi:∀(b:List (Ky × Vr)),(qM z b).Perm (z::b):=by
     intro b
     induction b with
     | nil=>exact xbU _
     | cons y r ihb =>
     unfold qM
     split
     ·exact xbU _
     exact (List.Perm.cons y ihb).trans (List.Perm.swap z y r)
    rw [xal];refine (ih (qM z a)).trans ?_;refine ((hi a).append_right l).trans ?_;exact (List.perm_middle (a:=z) (l₁:=a) (l₂:=l)).symm
   exact G _ []
  refine (u.map Prod.fst).nodup_iff.2 ?_;rw [xak,List.nodup_append];have A:∀l:List Ky,yU yR l->l.Nodup:=fun l B=>List.Pairwise.imp (fun {a b} h e=>by rw [e,wX.irr] at h;cases h) B
  refine ⟨?_,?_,?_⟩
  ·grind [sI,xK,zIp]
  ·have E:∀L:List yI,((gW L typ P).map Prod.fst).Sublist (L.map Prod.fst):=by
    intro L
    induction L with
    | nil=>exact List.Sublist.refl _
    | cons y r ih =>
    unfold gW at *;rw [xaN]
    cases hq:zCR typ P y with
    | none=>grind
    | some f =>
    have e:f.1=y.1:=by
     unfold zCR at hq
     split at hq
     ·grind
     cases hq
    grind
   exact A _ ((List.pairwise_map.2 p.rise:yU yR (x.wr.map Prod.fst)).sublist (E _))
  intro a F b C e;obtain ⟨f,n,rfl⟩:=List.mem_map.1 F;obtain ⟨g,i,rfl⟩:=List.mem_map.1 C;have j:=(List.mem_filter.1 n).2;obtain ⟨v,d,_⟩:=zBU i;rw [<-e] at d;have:=fY p.rise d
  grind
 have H:yU yR ((wQ x.wr (xK D typ x.snap P) typ P).map Prod.fst):=by
  have j:jR (wQ x.wr (xK D typ x.snap P) typ P):=zHm _ _ _ _;have c:((wQ x.wr (xK D typ x.snap P) typ P).map Prod.fst).Pairwise (fun a b=>yR b a=false):=List.pairwise_map.2 j;refine List.Pairwise.imp ?_ (List.Pairwise.and c I);rintro a b ⟨d,k⟩
  rcases wX.tot a b with q|q|q
  ·exact q
  ·grind
  grind
 refine zII ?_ (zHe o x typ P) (fun f=>?_) (isS D x) fun f n=>?_
 ·rw [xbW];exact H
 ·rw [zDp o,List.mem_map];constructor
  ·grind
  rintro ⟨d,k,m,t⟩
  cases i:yH x.wr f.1 with
  | none=>grind [isS,xT]
  | some e =>
  have c:=k;unfold isS at c;rw [i] at c;injection c with c
  cases e with
  | none=>rw [<-c] at m;cases m
  | some v =>
  refine ⟨(f.1,⟨0,0,0,true,v⟩),(s _).2 (xaf ?_),?_⟩
  ·refine List.mem_filterMap.2 ⟨(f.1,some v),uV i,?_⟩;unfold zCR;have w:P v=true:=by rw [<-c] at t;exact t
   simp [d,w]
  grind
 grind
theorem zKh (h:OkD D) (L:List yI) (typ:ByteArray) (t:Int) (P:List Fld->Bool):(wQ L (xK D typ t P) typ P).length<=zT D+L.length:=by
 rw [zLx];have a:(sI L (xK D typ t P)).length<=(xK D typ t P).length:=xaS _ _;have c:(gW L typ P).length<=L.length:=xbm _ _;have e:(xK D typ t P).length<=(pM D t).length:=xaS _ _;have b:(pM D t).length<=D.length:=xbm _ _
 have g:D.length<=zT D:=by
  unfold zT
  have f:∀r∈D,1<=r.2.length:=fun r d=>by
   have:=(h.ok r d).2
   cases hr2:r.2 with
   | nil=>exact absurd hr2 this
   | cons _ _=>simp
  clear h a c e b
  induction D with
  | nil=>simp
  | cons r D ih=>grind
 omega
end
section
variable {o:List Fx}
theorem zAd {d:List Fx} (h:o.map Fx.fld=d.map Fx.fld) (a:yW d):yW o:=by
 refine ⟨?_,fun x b=>?_⟩
 ·have:=xad List.length h;rw [zaM,zaM] at this;rw [this];exact a.1
 have:x.fld∈d.map Fx.fld:=by rw [<-h];exact xaI b
 obtain ⟨y,c,e⟩:=List.mem_map.1 this;rw [<-e];exact a.2 y c
theorem zI6 {n0 N:Nat} {w:World} {b u:Value} {d:List Fd} (h:KFd.Own n0 w b d) (c:zW N w u o) (k:Nat) (e:b.ownBlock=some k):¬ nF u o k:=by
 obtain ⟨m,l⟩:=zV (show w.ownsRow n0 171 7 b d.length (KFd.cells d) from h) e;intro a
 rcases a with a|⟨f,j,a⟩
 ·obtain ⟨i,g⟩:=zV c.1.1 a
  grind
 obtain ⟨i,g⟩:=zV (show w.ownsRow N 9 1 f.sl f.txt.length (f.txt.map Value.string) from c.1.2 f j) a
 grind
end
section
open Go.RowKit Go.Maps
section
variable {W:World} {L:List yI}
structure tG (N:Nat) (W:World) (v:Value) (fs:List Fd) (w:World):Prop where
 row:yG KFd N W v fs w
 val:∀f∈fs,zW N w f.v.sl f.v.o/\yW f.v.o
 apart:zEh fs
section
variable {N:Nat} {W:World} {v:Value} {fs:List Fd} {w:World}
theorem tG.nil (a:Below N W w) (b:N<=w.heap.size):tG N W (.slice none 0 0) [] w:=⟨yG.nil KFd a b,fun _ h=>by simp at h,xan⟩
theorem tG.on {c:World} (h:tG N W v fs w) (a:Below w.heap.size w c):tG N W v fs c:=⟨h.row.on a,fun f b=>⟨(h.val f b).1.on a,(h.val f b).2⟩,h.apart⟩
theorem tG.push {M:Nat} {b c:World} {g:Value} (h:tG N W v fs w) (f:Below w.heap.size w b) (x:Fd) (l:zW M b x.v.sl x.v.o) (t:w.heap.size<=M) (A:yW x.v.o) (q:yG KFd N W g (fs++[x]) c) (p:b.grownBy c v.ownBlock):tG N W g (fs++[x]) c:=by
 have e:=h.on f;have s:Fr (fun k=>v.ownBlock=some k) b c:=Fr.of_grown p fun k d=>d
 have d:∀{B:Nat} u o,zW B b u o->zW B c u o:=fun u o i=>yC i s fun k f m=>zI6 e.row.own i k m f
 refine ⟨q,fun y a=>?_,?_⟩
 ·rcases List.mem_append.1 a with a|a
  ·exact ⟨d _ _ (e.val y a).1,(e.val y a).2⟩
  rw [List.mem_singleton.1 a];exact ⟨zM (d _ _ l) (zaU h.row.base t),A⟩
 refine List.pairwise_append.2 ⟨h.apart,xaF _ _,fun y a z n k r j=>?_⟩;rw [List.mem_singleton.1 n] at j;have C:=(yL (h.val y a).1 k r).2;have D:=(yL l k j).1;omega
end
structure zGW (W:World) (r:Option Addr) (mp:Option Nat) (L:List yI):Prop where
 all:∀w',Below W.heap.size W w'->CC 103 #[.pointer r] w' fun e w2=>e=.returned (.map mp)/\w2=w'
 look:∀ka kb,zAH (ka,kb)->∃lv p c n,∀w',Below W.heap.size W w'->(Instr.lookup 162 (.map mp) (.agg #[.string ka,.string kb]) true).run prog w'=.ok (.tuple #[.agg #[.bool lv,.slice p n c],.bool (yH L (ka,kb)).isSome]) w'
theorem zGW.of {n0:Nat} {B:Nat->Prop} {g m:Nat} {F:Ky->We} {O:Ky->List Fx} (h:sT n0 W B g m F O L):zGW W (some ⟨g,0,none⟩) (some m) L:=⟨fun j i=>bY g m j (h.on i).cell,fun f e a=>by
  obtain ⟨d,p,c,o,b,_⟩:=zFg.of h f e a;exact ⟨d,p,c,_,b.look⟩⟩
theorem zNT (L:List yI) (fs:List Fnd) (f:Fnd) (h:(yH L f.1).isSome=true):sI L (fs++[f])=sI L fs:=by
 unfold sI;rw [xaV]
 cases e:yH L f.1<;>simp_all
theorem zKw (L:List yI) (fs:List Fnd) (f:Fnd) (h:(yH L f.1).isSome=false):sI L (fs++[f])=sI L fs++[f]:=by
 unfold sI
 simp_all
theorem Tryz.infoFdS:(prog.info? 171).map (fun i=>(i.zero,i.size,i.bytes))=some (some (.agg #[.string ⟨#[]⟩,.string ⟨#[]⟩,.int .i64 0,.int .u64 0,.int .i64 0,.bool false,.slice none 0 0]),7,88):=by kernel_rfl
def zR9 (W:World) (l:List Fnd) (e:Ending) (w':World):Prop:=∃v fs,e=.returned v/\tG W.heap.size W v fs w'/\fs.map Fd.fnd=l
theorem zIQ {r:Option Addr} {R:Option Nat} (h:zGW W r R L) (X:Value) (d:List Fd) (ag:dC W X d) (hl:d.length<=100000000):CC 134 #[.pointer r,X] W fun e t=>zR9 W (sI L (d.map Fd.fnd)) e t:=by
 obtain ⟨i0,aq,au,ba,bo⟩:=xaL Tryz.infoFdS;obtain ⟨pf,cf,rfl⟩:∃p c,X=sc p d.length c:=by obtain ⟨p,c,h1,_⟩:=ag.is;exact ⟨p,c,h1⟩
 have bh:=hid aq;have bf:=hid ag;have aj:=hid h;have bl:Hid (tG W.heap.size W (sc none 0 0) [] W/\([]:List Fd).map Fd.fnd=sI L ((d.map Fd.fnd).take 0)):=⟨tG.nil (zaR _ _) (zaL _),rfl⟩;go_enter func134,ntmps134;go_wp2_with fail
 go_loopg [5,12] d.length (fun gg v5 vi wr=>∃(i:Nat) (A:Option Addr) (y:Nat) (fs:List Fd),vi=ii i/\v5=sc A fs.length y/\i<=d.length/\d.length-i<=gg/\fs.length<=i/\Hid (tG W.heap.size W (sc A fs.length y) fs wr/\fs.map Fd.fnd=sI L ((d.map Fd.fnd).take i)))
 case atStart=>exact ⟨0,none,0,[],rfl,rfl,by omega,by omega,by simp,bl.o⟩
 obtain ⟨i,A,y,fs,rfl,rfl,hi,bw,bs,z⟩:=hrel
 by_cases hlt:i<d.length
 ·have bq:(i:Int)<(d.length:Int):=by omega
  have bu:(0:Int)<=i:=by omega
  have ac:Bw W wr:=z.o.1.row.bel;have ab:=bf.o.on ac
  obtain ⟨b1,o1,rfl,k1⟩:∃b off,pf=some (aa b off)/\KFd.At wr b off d:=by
   obtain ⟨A,y,he,h⟩:=ab.is;injection he with e1 _ _
   subst e1
   rcases h with h|h
   ·rw [h] at hlt;simp at hlt
   exact h
  obtain ⟨y0,y1,y2,y3,y4,y5,y6⟩:=zEi k1 i hlt;have I:=ab.each _ (zaN hlt);have ap:=ab.kfit _ (zaN hlt)
  have bp:(d.map Fd.fnd).take (i+1)=(d.map Fd.fnd).take i++[(d[i]).fnd]:=by
   rw [zaK (by rw [zaM];exact hlt),xa4]
  have ak:=hid bp
  generalize d[i]=f at *
  obtain ⟨V,P⟩:=eE (wr.alloc (.cells (zN f).toArray 171));obtain ⟨O,hO⟩:=eE wr.heap.size;have F:Bw wr V:=by rw [<-P];exact zaQ
  have ay:V.heap[O]? = some (oc (zN f).toArray 171):=by rw [<-P,<-hO];exact xab wr _
  have ar:V.heap.size=O+1:=by rw [<-P,<-hO];simp
  obtain ⟨D,H,M,S,bm⟩:=aj.o.look f.a f.b ap;have Q:Bw W V:=zA ac ac.size F
  have U:Hid (∀s:World,s.heap[O]? = V.heap[O]?->zEx s O 0 f/\s.frozen? (aa O 6)=false):=fun s h=>by
   have:=h.trans ay;obtain ⟨g,j,⟨m,n,l,k,fp,fc,fx⟩⟩:=f;exact ⟨⟨by rw [zaC this];rfl,by rw [zaC this];rfl,by rw [zaC this];rfl,by rw [zaC this];rfl,by rw [zaC this];rfl,by rw [zaC this];rfl,by rw [zaC this];rfl⟩,zaF this 6⟩
  have Y:Hid (∀s:World,Bw V s->s.cell? (aa O 0)=some (tq f.a)/\s.cell? (aa O 1)=some (tq f.b)/\(Instr.lookup 162 (.map R) (.agg #[tq f.a,tq f.b]) true).run prog s=.ok (.tuple #[.agg #[.bool D,sc H S M],.bool (yH L (f.a,f.b)).isSome]) s):=fun s B=>by
   have K:=(U.o s (B.block O (by omega))).1;exact ⟨K.1,K.2.1,bm s (zA Q Q.size B)⟩
  obtain ⟨x,al⟩:=eE (V.drew.alloc (.cells #[.bool false,sc none 0 0] 191));have ad:Bw V x:=by rw [<-al];exact ((zaR _ V).drew).alloc (zaL _) _
  have bg:Bw V (x.setCell (aa (O+1) 0) (.bool D)):=ad.setCell (show V.heap.size<=O+1 by omega) _;have C:Bw V ((x.setCell (aa (O+1) 0) (.bool D)).setCell (aa (O+1) 1) (sc H S M)):=bg.setCell (show V.heap.size<=O+1 by omega) _;have G:x.heap[O+1]? = some (oc #[.bool false,sc none 0 0] 191):=by rw [<-al,<-ar];exact xab V.drew _
  obtain ⟨T,ah⟩:=eE ((x.setCell (aa (O+1) 0) (.bool D)).setCell (aa (O+1) 1) (sc H S M));rw [ah] at C;have z0:x.cell? (aa (O+1) 0)=some (.bool false):=cz G;have z1:x.cell? (aa (O+1) 1)=some (sc none 0 0):=cz G;have z2:x.frozen? (aa (O+1) 0)=false:=zaF G 0;have z3:x.frozen? (aa (O+1) 1)=false:=zaF G 1;have ai:Bw V V.drew:=(zaR _ V).drew;have bb:Hid (∀t:World,Bw V t->CC 103 #[.pointer r] t fun e w2=>e=.returned (.map R)/\w2=t):=fun t B=>aj.o.all t (zA Q Q.size B)
  have ao:=hid ai;have av:=hid ad;have bk:=hid C;have J:=hid (zA F F.size C);have q0:=Y.out V.drew ai;have q1:=Y.out _ ad;have q2:=Y.out _ C;have bv:=C.size;have bd:=hid ((U.o T (C.block O (by omega))));have HC:=hid (nP f.v.sl f.v.o T (wH.kept I.1 (zA F F.size C)) I.2.1 I.2.2);have br:=hid I.2;obtain ⟨b,B⟩:=eE ((yH L (f.a,f.b)).isSome);have HB:=hid B;rw [B] at q0 q1 q2;obtain ⟨g,j,⟨m,n,l,k,fp,fc,fx⟩⟩:=f;simp only [zN,zF,Vx.sl,zEx,zBK,xaJ] at *;go_wp2_with fail;try rw [hO];try rw [P]
  go_region_held3 (fun t=>t.cell? (aa O 0)=some (tq g)/\t.cell? (aa O 1)=some (tq j)/\(Instr.lookup 162 (.map R) (.agg #[tq g,tq j]) true).run prog t=.ok (.tuple #[.agg #[.bool D,sc H S M],.bool b]) t)
   (first|exact q0|exact q1|exact q2)
   (first|(go_at_call 103;refine (bb.o _ (by first|exact ao.o|exact av.o)).mono ?_;rintro e q ⟨rfl,rfl⟩))
  all_goals
   try rw [ah]
   cases b with
   | true =>
    have HN:Hid (tG W.heap.size W (sc A fs.length y) fs T/\fs.map Fd.fnd=sI L ((d.map Fd.fnd).take (i+1))):=by
     refine ⟨z.o.1.on J.o,?_⟩;rw [ak.o,zNT L _ _ HB.o,z.o.2]
    go_wp2_with fail
    go_roundg (d.length-(i+1))
    case measure=>omega
    exact ⟨i+1,A,y,fs,by go_num,rfl,by omega,by omega,by omega,HN.o⟩
   | false =>
   obtain ⟨⟨s0,s1,s2,s3,s4,s5,s6⟩,s7⟩:=bd.o;go_wp2_with fail;refine HC.o.mono ?_;rintro e q ⟨u,o5,rfl,hJ5,ho5,hb5⟩;obtain ⟨p5,f5,rfl⟩:=xA hJ5;have az:q.heap[O]? = V.heap[O]?:=(hb5.block O (by omega)).trans (bk.o.block O (by omega));obtain ⟨⟨e0,e1,e2,e3,e4,e5,e6⟩,e7⟩:=U.o q az;have bt:=hb5.size;have am:Bw wr (q.setCell (aa O 6) (sc p5 o5.length f5)):=(zA J.o J.o.size hb5).setCell (by show wr.heap.size<=O;omega) _;have an:Bw wr ((q.setCell (aa O 6) (sc p5 o5.length f5)).alloc (.cells #[tq g,tq j,ii m,iu n,ii l,.bool k,sc p5 o5.length f5] 171)):=am.alloc am.size _;have bi:Hid (yG KFd W.heap.size W (sc A fs.length y) fs ((q.setCell (aa O 6) (sc p5 o5.length f5)).alloc (.cells #[tq g,tq j,ii m,iu n,ii l,.bool k,sc p5 o5.length f5] 171))):=(z.o.1.on an).row;have bj:zW T.heap.size ((q.setCell (aa O 6) (sc p5 o5.length f5)).alloc (.cells #[tq g,tq j,ii m,iu n,ii l,.bool k,sc p5 o5.length f5] 171)) (sc p5 o5.length f5) o5:=(zO hJ5 (by omega) _).on (zaQ)
   have bc:Hid (((q.setCell (aa O 6) (sc p5 o5.length f5)).alloc (.cells #[tq g,tq j,ii m,iu n,ii l,.bool k,sc p5 o5.length f5] 171)).heap[q.heap.size]? = some (oc #[tq g,tq j,ii m,iu n,ii l,.bool k,sc p5 o5.length f5] 171)):=by
    have:=xab (q.setCell (aa O 6) (sc p5 o5.length f5)) (.cells #[tq g,tq j,ii m,iu n,ii l,.bool k,sc p5 o5.length f5] 171);have hz:(q.setCell (aa O 6) (sc p5 o5.length f5)).heap.size=q.heap.size:=by simp
    rw [hz] at this;exact this
   have aw:Hid (∀g7 Z E,yG KFd W.heap.size W (sc (some (aa g7 0)) (fs.length+1) Z) (fs++[⟨g,j,⟨m,n,l,k,p5,f5,o5⟩⟩]) E->((q.setCell (aa O 6) (sc p5 o5.length f5)).alloc (.cells #[tq g,tq j,ii m,iu n,ii l,.bool k,sc p5 o5.length f5] 171)).grownBy E (Value.slice A fs.length y).ownBlock ->
     tG W.heap.size W (sc (some (aa g7 0)) (fs.length+1) Z) (fs++[⟨g,j,⟨m,n,l,k,p5,f5,o5⟩⟩]) E/\(fs++[(⟨g,j,⟨m,n,l,k,p5,f5,o5⟩⟩:Fd)]).map Fd.fnd=sI L ((d.map Fd.fnd).take (i+1))):=fun g7 Z E bn hg=>by
    refine ⟨z.o.1.push an ⟨g,j,⟨m,n,l,k,p5,f5,o5⟩⟩ bj J.o.size (zAd ho5 br.o.1) bn hg,?_⟩;rw [ak.o,zKw L _ _ HB.o,<-z.o.2,xak]
    have K:(⟨g,j,⟨m,n,l,k,p5,f5,o5⟩⟩:Fd).fnd=(⟨g,j,⟨m,n,l,k,fp,fc,fx⟩⟩:Fd).fnd:=by
     simp only [Fd.fnd,Vx.ver];rw [ho5]
    rw [List.map_singleton,K]
   go_wp2_with (at_builtin;refine xG KFd rfl _ _ 43 rfl i0 _ 88 underlying43 bh.o au ba bo rfl W.heap.size W _ fs rfl bi.o ⟨g,j,⟨m,n,l,k,p5,f5,o5⟩⟩ _ _ _ rfl rfl _ _ bc.o (by unfold maxLen;omega) (by omega) ?_;intro g8 c8 E ae af _;have ax:=hid (aw.o _ _ _ ae af);clear ae af)
   go_roundg (d.length-(i+1))
   case measure=>omega
   exact ⟨i+1,some (aa g8 0),c8,fs++[⟨g,j,⟨m,n,l,k,p5,f5,o5⟩⟩],by go_num,by rw [xah];rfl,by omega,by omega,by rw [xah];simp;omega,by rw [xah];exact ax.o⟩
 have bq:¬ (i:Int)<(d.length:Int):=by omega
 have be:(d.map Fd.fnd).take i=d.map Fd.fnd:=xaj (by rw [zaM];omega);rw [be] at z;go_wp2_with fail;go_ret;exact ⟨_,fs,rfl,z.o⟩
end
end
section
open Go.RowKit Go.Maps
section
variable {typ:ByteArray} {k:Ky} {L:List yI} {N:Nat} {W:World}
def jC (L:List yI) (typ:ByteArray) (mt:List Fld->Bool) (k:Ky):Option Fnd:=(yH L k).bind fun r=>zCR typ mt (k,r)
theorem zNm {mt:List Fld->Bool} {r:Wr} {f:Fnd} (h:zCR typ mt (k,r)=some f):f.1=k:=by grind [zCR]
theorem zCm {mt:List Fld->Bool} {f:Fnd} (h:jC L typ mt k=some f):f.1=k:=by
 unfold jC at h
 cases e:yH L k with
 | none=>grind
 | some r=>grind [zNm]
theorem jT {α β:Type} {f g:α->Option β}:∀{l:List α},(∀x∈l,f x=g x)->l.filterMap f=l.filterMap g
 | [],_=>rfl
 | x::l,h=>by rw [xaN,xaN,h x (by simp),jT (l:=l) fun y a=>h y (xay _ a)]
theorem zIY (h:OkW L) (typ:ByteArray) (mt:List Fld->Bool):gW L typ mt=(xH L).filterMap (jC L typ mt):=by
 unfold gW xH;rw [List.filterMap_map];refine jT fun y a=>?_
 show zCR typ mt y=(yH L y.1).bind fun r=>zCR typ mt (y.1,r)
 rw [fY h.rise a];rfl
theorem zBC {L:List yI} {typ:ByteArray} {mt:List Fld->Bool} (k:Ky):∀{ks:List Ky},ks.Nodup->(k ∉ ks->jC L typ mt k=none)->(ks.filterMap (jC L typ mt)).filter (fun y=>decide (y.1=k))=(jC L typ mt k).toList
 | [],_,h=>by grind
 | x::ks,hn,h=>by
  obtain ⟨j,d⟩:=List.nodup_cons.1 hn
  by_cases e:x=k
  ·subst e
   have b:(ks.filterMap (jC L typ mt)).filter (fun y=>decide (y.1=x))=[]:=List.filter_eq_nil_iff.2 fun y a=>by
    obtain ⟨z,g,a⟩:=List.mem_filterMap.1 a;rw [zCm a]
    grind
   rw [xaN]
   cases hx:jC L typ mt x with
   | none=>exact b
   | some f =>
   simp only [xbr,zCm hx,decide_true,if_true,b];rfl
  have c:=zBC (L:=L) (typ:=typ) (mt:=mt) k d fun i=>h (by grind)
  rw [xaN]
  cases hx:jC L typ mt x with
  | none=>exact c
  | some f=>grind [zCm]
theorem zPC (h:OkW L) {typ:ByteArray} {mt:List Fld->Bool} {ks:List Ky} (g:ks.Nodup) (f:∀k,(yH L k).isSome=true->k∈ks) (k:Ky):(ks.filterMap (jC L typ mt)).filter (fun y=>decide (y.1=k))=(gW L typ mt).filter (fun y=>decide (y.1=k)):=by
 have c:∀{l:List Ky},(∀j,(yH L j).isSome=true->j∈l)->k ∉ l->jC L typ mt k=none:=fun i n=>by
  unfold jC
  cases e:yH L k with
  | none=>rfl
  | some r=>grind
 have d:(xH L).Nodup:=by
  unfold xH;refine List.Pairwise.imp (R:=fun a b=>yR a b=true) (fun {a b} hab e=>?_) (List.pairwise_map.2 h.rise);rw [e,wX.irr] at hab
  cases hab
 rw [zBC k g (c f),zIY h,zBC k d (c fun j hj=>(zDO j).2 hj)]
theorem zPm {a b:ByteArray} (h:a≠b):(a.toList==b.toList)=false:=by
 have:=Z.eqK_iff (a,a) (b,a)
 grind [Z.eqK]
theorem zOk {g:World} {u:Value} {o:List Fx} {row:Option Nat} (h:zW N W u o) (n:W.grownBy g row) (j:∀r,row=some r->∃d:Obj,W.heap[r]? = some d/\d.isCells=false):zW N g u o:=yC h (zBz n) fun k a e=>by
  obtain ⟨d,c,i⟩:=j k e
  have:∃b t,W.heap[k]? = some (oc b t):=by
   rcases a with a|⟨f,p,a⟩
   ·obtain ⟨b,l⟩:=zV h.1.1 a
    grind
   obtain ⟨b,l⟩:=zV (h.1.2 f p) a
   grind
  obtain ⟨b,t,q⟩:=this;rw [q] at c;injection c with c
  rw [<-c] at i
  cases i
theorem tG.nc {v:Value} {fs:List Fd} {w b:World} {r:Nat} (h:tG N W v fs w) (a:w.grownBy b (some r)) (d:∃ob:Obj,w.heap[r]? = some ob/\ob.isCells=false) (g:N<=r):tG N W v fs b:=by
 have hr':∀k,some r=some k->∃ob:Obj,w.heap[k]? = some ob/\ob.isCells=false:=fun k e=>by grind
 exact ⟨⟨zJi h.row.own a hr',qK h.row.bel a (fun k e=>by grind) h.row.base,zaU h.row.base a.size⟩,fun f c=>⟨zOk (h.val f c).1 a hr',(h.val f c).2⟩,h.apart⟩
structure zLS (W:World) (m N:Nat) (F:Ky->We) (L:List yI) (typ:ByteArray) (mt:List Fld->Bool) (seen:List Ky) (cnt:Nat) (v:Value) (fs:List Fd) (w:World):Prop where
 rng:wD MW w m N L.length (fS L F) L.length seen cnt
 tl:tG W.heap.size W v fs w
 eq:fs.map Fd.fnd=seen.filterMap (jC L typ mt)
section
variable {W:World} {m N:Nat} {F:Ky→We} {L:List yI} {typ:ByteArray} {mt:List Fld→Bool} {seen:List Ky} {cnt:Nat} {v:Value} {fs:List Fd} {w:World}
theorem zLS.len (h:zLS W m N F L typ mt seen cnt v fs w):fs.length<=seen.length/\seen.length+cnt<=L.length:=by
 have:=xad List.length h.eq;rw [zaM] at this;exact ⟨by grind,h.rng.nodup.2.2⟩
end
def zJI (W:World) (L:List yI) (typ:ByteArray) (mt:List Fld->Bool) (e:Ending) (w':World):Prop:=∃(v:Value) (fs:List Fd) (ks:List Ky),e=.returned v/\tG W.heap.size W v fs w'/\fs.map Fd.fnd=ks.filterMap (jC L typ mt)/\ks.Nodup/\(∀k,(yH L k).isSome=true->k∈ks)/\ks.length<=L.length
theorem zMF {n0:Nat} {W:World} {B:Nat->Prop} {g m:Nat} {F:Ky->We} {O:Ky->List Fx} {L:List yI} (h:sT n0 W B g m F O L) (typ:ByteArray) (pa:Option Addr) (pc:Nat) (A:List Tm) (hp:KM.Is W (.slice pa A.length pc) A) (bu:qZ A) (hl:L.length<=100000000):CC 135 #[.pointer (some ⟨g,0,none⟩),.string typ,.slice pa A.length pc] W fun e J=>zJI W L typ (zR A) e J:=by
 obtain ⟨i0,ay,bz,ca,cf⟩:=xaL Tryz.infoFdS;have cp:=hid ay;have ch:=hid (bY g m W h.cell);have HS:=hid h;have HP:=hid hp;have cb:=hid bu;obtain ⟨N,hN⟩:∃N,W.heap.size=N:=⟨_,rfl⟩;have hM:=h.map;have cy:m<N:=by rw [<-hN];exact hM.lt
 obtain ⟨mt,ao⟩:∃mt,zR A=mt:=⟨_,rfl⟩;rw [ao];have ci:=hid ao;clear h hp bu ay ao;go_enter func135,ntmps135;go_wp2_with fail;refine ch.out.mono ?_;rintro e w0 ⟨rfl,rfl⟩;go_wp2_with (at_range;refine zC8 (T:=MW) _ rfl _ rfl m L.length (fS L F) L.length rfl hM ?_;intro w1 an bb ck)
 go_frame
 (try rw [hN] at an);(try rw [hN])
 have ap:Below w0.heap.size w0 w1:=by
  have:=Fr.of_grown (P:=fun _=>False) bb fun k I=>by cases I
  exact this.below (zaL _) fun k I=>I.elim
 have bq:Hid (zLS w0 m N F L typ mt [] L.length (.slice none 0 0) [] w1):=⟨an,tG.nil ap ap.size,rfl⟩;clear an bb ck hM ap
 go_loopg [7] L.length (fun gg v7 wr=>∃(seen:List Ky) (cnt:Nat) (l:Option Addr) (j:Nat) (fs:List Fd),v7=.slice l fs.length j/\cnt<=gg/\Hid (zLS w0 m N F L typ mt seen cnt (.slice l fs.length j) fs wr))
 case atStart=>exact ⟨[],L.length,none,0,[],rfl,zaL _,bq.out⟩
 clear bq;obtain ⟨seen,cnt,l,j,fs,rfl,db,C⟩:=hrel;have M:=C.out.rng;go_wp2_with (at_next;refine zE6 (T:=MW) _ rfl _ rfl m N L.length (fS L F) L.length seen cnt rfl M ?_ ?_)
 ·intro bt
  have HE:Hid (zJI w0 L typ mt (.returned (.slice l fs.length j)) wr):=⟨_,fs,seen,rfl,C.out.tl,C.out.eq,M.nodup.1,fun k I=>by
   obtain ⟨r,ce⟩:=Option.isSome_iff_exists.1 I;exact bt k.1 k.2 (zFe (HS.out.ok.key _ (uV ce))) (by rw [dD];exact I),by have:=M.nodup.2.2;omega⟩
  clear bt M;go_wp2_with fail;go_ret;exact HE.out
 intro a c e f q bv cc aw V da bc co cg;have hfb':fS L F (a,c)=some e:=aw;have ax:(yH L (a,c)).isSome=true:=by rw [<-dD (F:=F),hfb'];rfl
 obtain ⟨r,U⟩:=Option.isSome_iff_exists.1 ax
 have cu:e=F (a,c):=by
  unfold fS at hfb';rw [U] at hfb';injection hfb' with hfb'
  exact hfb'.symm
 subst cu;obtain ⟨ag,hJ,ac⟩:=HS.out.row (a,c) r U;obtain ⟨vp,vc,hsl⟩:=xA hJ
 have ai:yZ ((O (a,c)).map Fx.fld)=true:=by
  rw [ac]
  cases r with
  | none=>exact pC
  | some v=>exact HS.out.ok.may _ (uV U) v rfl
 obtain ⟨si,sn,sc,ba⟩:=M.iter;have ad:=C.out.tl.nc bc ⟨_,ba,rfl⟩ (by omega);obtain ⟨lv,hlv⟩:∃lv,(F (a,c)).live=lv:=⟨_,rfl⟩;obtain ⟨o,ho⟩:∃o,O (a,c)=o:=⟨_,rfl⟩;rw [ho] at hsl ac ai hJ;rw [hlv] at ag
 have ev:MW.val (F (a,c))=.agg #[.bool lv,.slice vp o.length vc]:=by
  show Value.agg #[.bool (F (a,c)).live,(F (a,c)).sl]=_
  rw [hlv,hsl]
 have ek:MW.key (a,c)=.agg #[.string a,.string c]:=rfl;rw [ek,ev] at cg ⊢
 have al:Hid (∀p,Below f.heap.size f p->jC L typ mt (a,c)=none->zLS w0 m N F L typ mt (seen++[(a,c)]) q (.slice l fs.length j) fs p):=fun p y cj=>by
  refine ⟨V.on (y.block _ V.map.lt) (y.block _ V.lt),ad.on y,?_⟩;rw [List.filterMap_append,C.out.eq];simp [cj]
 have G:Hid (jC L typ mt (a,c)=if lv=true/\a=typ/\mt (o.map Fx.fld)=true then some ((a,c),⟨0,0,0,true,o.map Fx.fld⟩) else none):=by
  show jC L typ mt (a,c)=_
  unfold jC zCR;rw [U]
  cases r with
  | none=>grind
  | some v =>
  rw [ag];have hv:o.map Fx.fld=v:=ac
  grind
 clear ek ev aw hfb' bv cc ax U ag ac hlv ho ba M;obtain ⟨Q,hQ⟩:∃Q,f.heap.size=Q:=⟨_,rfl⟩;clear co;have ae:Below f.heap.size f ((f.alloc (.cells #[.string a,.string c] 36)).alloc (.cells #[.bool lv,.slice vp o.length vc] 191)):=(zaQ).alloc (by simp) _;obtain ⟨w3,hw3⟩:∃w3,(f.alloc (.cells #[.string a,.string c] 36)).alloc (.cells #[.bool lv,.slice vp o.length vc] 191)=w3:=⟨_,rfl⟩;have av:w3.heap[Q]? = some (.cells #[.string a,.string c] 36 (0,0)):=by rw [<-hw3,<-hQ];exact (xaG _ _ _ (by simp)).trans (xab f _)
 have bl:w3.heap[Q+1]? = some (.cells #[.bool lv,.slice vp o.length vc] 191 (0,0)):=by
  have:=xab (f.alloc (.cells #[.string a,.string c] 36)) (.cells #[.bool lv,.slice vp o.length vc] 191);rw [xba,hQ,hw3] at this;exact this
 have cv:w3.heap.size=Q+2:=by rw [<-hw3,<-hQ];simp
 rw [hw3] at ae
 have Z:Hid (∀p:World,Below w3.heap.size w3 p->p.cell? ⟨Q,0,none⟩=some (.string a)/\p.cell? ⟨Q,1,none⟩=some (.string c)/\p.cell? ⟨Q+1,1,none⟩=some (.slice vp o.length vc)/\p.cell? ⟨Q+1,0,none⟩=some (.bool lv)):=fun p y=>by
  have y0:=(y.block Q (by omega)).trans av;have y1:=(y.block (Q+1) (by omega)).trans bl;exact ⟨by rw [zaC y0];rfl,by rw [zaC y0];rfl,by rw [zaC y1];rfl,by rw [zaC y1];rfl⟩
 obtain ⟨k0,k1,k2,k3⟩:=Z.out w3 (zaR _ _);have ak:Below w0.heap.size w0 f:=ad.row.bel;have am:Below w0.heap.size w0 w3:=zA ak ak.size ae
 have bj:Hid (wH w3 (.slice vp o.length vc) o):=by
  show wH w3 (.slice vp o.length vc) o
  rw [<-hsl];exact wH.kept hJ.1.is am
 have cq:=hid (zC.is_kept HP.out am);have Y:=hid (xJ ai);have E:=hid ae;have ar:=hid ad;have aj:=hid V;have ct:=hid C.out.eq;have bx:=hid C.out.len;clear ae ak am ad V av bl hJ ai hsl C bc
 by_cases e1:a=typ
 ·subst e1
  cases lv with
  | false =>
   go_wp2_with fail
   (try rw [hw3]);go_roundg q
   case measure=>omega
   exact ⟨seen++[(a,c)],q,l,j,fs,rfl,zaL _,al.out _ E.out (by rw [G.out,xag (by simp)])⟩
  | true =>
  have HM:=hid (jK (.slice pa A.length pc) (.slice vp o.length vc) A o w3 cq.out cb.out bj.out Y.out.1 Y.out.2.2);rw [ci.out] at HM;obtain ⟨bm,ah⟩:∃b,mt (o.map Fx.fld)=b:=⟨_,rfl⟩;rw [ah] at HM;have az:=hid ah;clear ah
  cases bm with
  | false =>
   have HH:=hid (G.out.trans (xag (fun h=>by rw [az.out] at h;cases h.2.2)));clear G;go_wp2_with (go_at_call 140;(try rw [hw3]);refine HM.out.mono ?_;rintro e H ⟨rfl,X⟩;have z:=hid X;clear X);go_roundg q
   case measure=>omega
   exact ⟨seen++[(a,c)],q,l,j,fs,rfl,zaL _,al.out _ (zA E.out E.out.size z.out) HH.out⟩
  | true =>
  have HH:=hid (G.out.trans (xae ⟨rfl,rfl,az.out⟩));clear G;go_wp2_with (go_at_call 140;(try rw [hw3]);refine HM.out.mono ?_;rintro e H ⟨rfl,X⟩;have z:=hid X;clear X);have q4:=Z.out H.drew z.out.drew;have HC:=hid (nP (.slice vp o.length vc) o H.drew (wH.kept bj.out z.out.drew) Y.out.1 Y.out.2);have cx:=z.out.size;clear k0 k1 k2 k3 HM;refine tkb (S:=fun J=>J.cell? ⟨Q,0,none⟩=some (.string a)/\J.cell? ⟨Q,1,none⟩=some (.string c)/\J.cell? ⟨Q+1,1,none⟩=some (.slice vp o.length vc)/\J.cell? ⟨Q+1,0,none⟩=some (.bool true)) q4 fun w=>?_;refine tkv4 0 1 2 3 (.slice l fs.length j) (.agg #[.string a,.string c]) (.pointer (some ⟨Q+1,1,none⟩)) (.slice vp o.length vc) w ?_;simp only [Act.put,sz];clear w;refine tkc 4 fun K D=>?_
  go_simp
  refine HC.out.mono ?_;rintro e s ⟨u,n,rfl,af,aq,br⟩;obtain ⟨p5,f5,rfl⟩:=xA af;obtain ⟨V5,hV5⟩:∃V5,s.alloc (.cells (zN ⟨a,c,⟨0,0,0,true,p5,f5,n⟩⟩).toArray 171)=V5:=⟨_,rfl⟩;obtain ⟨O5,hO5⟩:∃O5,s.heap.size=O5:=⟨_,rfl⟩;have x:Below s.heap.size s V5:=by rw [<-hV5];exact zaQ
  have bh:V5.heap[O5]? = some (.cells (zN ⟨a,c,⟨0,0,0,true,p5,f5,n⟩⟩).toArray 171 (0,0)):=by rw [<-hV5,<-hO5];exact xab s _
  have be:Below H.heap.size H s:=(zG (zaR _ _) 1).trans br;have i:Below w3.heap.size w3 s:=zA z.out z.out.size be;have ab:Below f.heap.size f V5:=zA (zA E.out E.out.size i) (zaU E.out.size i.size) x;have bk:=hid (ar.out.on ab).row;have bd:zW H.heap.size V5 (.slice p5 n.length f5) n:=zW.on af x
  have cd:Hid (∀g7 c7 d,yG KFd w0.heap.size w0 (.slice (some ⟨g7,0,none⟩) (fs.length+1) c7) (fs++[⟨a,c,⟨0,0,0,true,p5,f5,n⟩⟩]) d->V5.grownBy d (Value.slice l fs.length j).ownBlock ->
    zLS w0 m N F L a mt (seen++[(a,c)]) q (.slice (some ⟨g7,0,none⟩) (fs.length+1) c7) (fs++[⟨a,c,⟨0,0,0,true,p5,f5,n⟩⟩]) d/\Below w0.heap.size w0 d/\d.heap[Q]? = w3.heap[Q]?/\d.heap[Q+1]? = w3.heap[Q+1]?):=fun g7 c7 d bf hg=>by
   have R:=aj.out.on (ab.block _ aj.out.map.lt) (ab.block _ aj.out.lt)
   have bn:∀b,(∀cs t fz,V5.heap[b]?≠some (.cells cs t fz))->some b≠(Value.slice l fs.length j).ownBlock:=fun b hn e=>by
    obtain ⟨cs,hc⟩:=zV (show V5.ownsRow w0.heap.size 171 7 _ fs.length (KFd.cells fs) from bk.out.own) e.symm;exact hn _ _ _ hc
   have au:∀b,(Value.slice l fs.length j).ownBlock=some b->b<f.heap.size:=fun b y=>(zaW ar.out.row.own b y).2
   refine ⟨⟨?_,ar.out.push ab ⟨a,c,⟨0,0,0,true,p5,f5,n⟩⟩ bd (zaU E.out.size z.out.size) (zAd aq Y.out.1) bf hg,?_⟩,bf.bel,?_,?_⟩
   ·obtain ⟨es,cl,bw⟩:=R.map.obj;obtain ⟨si,sn,sc,hie⟩:=R.iter;exact R.on (hg.block m R.map.lt (bn m fun _ _ _ e=>by rw [bw] at e;cases e)) (hg.block N R.lt (bn N fun _ _ _ e=>by rw [hie] at e;cases e))
   ·rw [xak,ct.out,List.filterMap_append]
    congr 1
    rw [xaN,HH.out,<-aq];rfl
   ·exact (hg.block Q (by have:=x.size;have:=i.size;omega) fun e=>by have:=au Q e.symm;omega).trans ((x.block Q (by have:=i.size;omega)).trans (i.block Q (by omega)))
   exact (hg.block (Q+1) (by have:=x.size;have:=i.size;omega) fun e=>by have:=au (Q+1) e.symm;omega).trans ((x.block (Q+1) (by have:=i.size;omega)).trans (i.block (Q+1) (by omega)))
  have q5:=Z.out s i;have qV:=Z.out V5 (zA i i.size x);have cr:=hid bh
  have cm:Hid (∀d:World,d.heap[Q]? = w3.heap[Q]?->d.heap[Q+1]? = w3.heap[Q+1]?->d.cell? ⟨Q,0,none⟩=some (.string a)/\d.cell? ⟨Q,1,none⟩=some (.string c)/\d.cell? ⟨Q+1,1,none⟩=some (.slice vp o.length vc)/\d.cell? ⟨Q+1,0,none⟩=some (.bool true)):=fun d h0 h1=>by
   obtain ⟨a0,a1,a2,a3⟩:=Z.out w3 (zaR _ _);exact ⟨(xap h0).trans a0,(xap h0).trans a1,(xap h1).trans a2,(xap h1).trans a3⟩
  simp only [zN,zF,Vx.sl] at *;clear af aq br x bh be i ab bd HC;go_wp2_with fail;refine D.out _ _ q5 (fun w=>?_);clear D K
  try simp only [Act.put,sz]
  refine tkv2 5 6 (.agg #[.int .i64 0,.int .u64 0,.int .i64 0,.bool true,.slice p5 n.length f5]) (.agg #[.string a,.string c,.int .i64 0,.int .u64 0,.int .i64 0,.bool true,.slice p5 n.length f5]) w ?_;simp only [Act.put,sz];clear w;refine tkc 7 fun K D=>?_
  go_simp
  go_wp2_with fail
  (try rw [hV5]);(try rw [hO5]);refine D.out _ _ qV (fun w=>?_);clear D K
  try simp only [Act.put,sz]
  clear w;have cn:=bx.out;refine xaA (rs:=[8]) (by kernel_rfl) (by simp) ?_;refine xao (zB rfl) (fun K D=>?_) xau;refine zEE KFd rfl _ _ 43 rfl i0 _ 88 underlying43 cp.out bz ca cf rfl w0.heap.size w0 _ fs rfl bk.out ⟨a,c,⟨0,0,0,true,p5,f5,n⟩⟩ O5 _ _ rfl rfl _ _ cr.out (by unfold maxLen;omega) (by omega) ?_;intro g8 c8 d bg bi _;obtain ⟨bo,_,bs,bp⟩:=cd.out g8 c8 d bg bi;have cw:=hid bo;have q8:=cm.out d bs bp;clear bg bi bo bs bp qV q5 cn;refine D.out _ _ q8 (fun w=>?_);clear D K
  try simp only [Act.put,sz]
  refine tkv 9 (.slice (some ⟨g8,0,none⟩) (fs.length+1) c8) w ?_;simp only [Act.put,sz];refine tkd ?_;clear w q8;go_wp2_with fail;go_roundg q
  case measure=>omega
  exact ⟨seen++[(a,c)],q,some ⟨g8,0,none⟩,c8,fs++[⟨a,c,⟨0,0,0,true,p5,f5,n⟩⟩],by grind,zaL _,by grind⟩
 have dc:=zPm e1;go_wp2_with fail;(try rw [hw3]);go_roundg q
 case measure=>omega
 exact ⟨seen++[(a,c)],q,l,j,fs,rfl,zaL _,al.out _ E.out (by rw [G.out,xag (fun h=>e1 h.2.1)])⟩
end
end
section
open Go.RowKit Go.Sort Go.Lib Go.Shelf
section
variable {x y:Fd}
def kFd:Nat:=7
theorem pD:∀w,(Go.sizeOf 171).run prog w=.ok kFd w:=sizeOf171
def Fd.key (x:Fd):Ky:=(x.a,x.b)
def xX (x y:Fd):Int:=Z.cmpI x.a x.b y.a y.b
theorem ltY (x y:Fd):ltOf xX x y=ltOf Z.cmpK x.key y.key:=rfl
theorem zPu:SWO (ltOf xX) where
 irrefl x:=Z.swoK.irrefl x.key
 trans x y z h1 h2:=Z.swoK.trans x.key y.key z.key h1 h2
 ntrans x y z h1 h2:=Z.swoK.ntrans x.key y.key z.key h1 h2
theorem zEp (x y:Fd) (h:ltOf xX x y=true):x.key≠y.key:=fun e=>by
 rw [ltY,e,Z.swoK.irrefl] at h
 cases h
theorem zCp (h:ltOf xX x y=true):xX x y<0:=xaM h
theorem zBP (h:ltOf xX x y=false):¬ xX x y<0:=xbN h
theorem zBa (x y:Fd) (w:World):CC 137 #[.agg (zN x).toArray,.agg (zN y).toArray] w fun e c=>e=.returned (.int .i64 (xX x y))/\yD w c:=by
 have d:Hid (∀w,CC 104 #[.agg #[tq x.a,tq x.b],.agg #[tq y.a,tq y.b]] w fun e c=>e=.returned (ii (xX x y))/\yD w c):=fun w =>
  (Z.compare_eq x.a x.b y.a y.b w).mono fun e c ⟨h1,h2⟩=>⟨h1,by rw [h2];exact ((((yD.refl _).alloc _).alloc _).alloc _).drewN 1⟩
 generalize xX x y=p2 at d ⊢
 obtain ⟨k,g,j,f,n,i,m,q,h⟩:=x;obtain ⟨ya,yb,yn,ys,yt,yl,yp,yc,yo⟩:=y;simp only [zN,zF,Vx.sl] at *;have p:Hid (yD w ((w.alloc (.cells #[tq k,tq g,ii j,iu f,ii n,.bool i,sc m h.length q] 171)).alloc (.cells #[tq ya,tq yb,ii yn,iu ys,ii yt,.bool yl,sc yp yo.length yc] 171))):=((yD.refl _).alloc _).alloc _;go_enter func137,ntmps137;go_wp2_with fail;refine (d.o _).mono ?_;rintro e w6 ⟨rfl,hg6⟩;have l:=hid (p.o.trans hg6);go_wp2_with fail;go_ret;exact ⟨rfl,l.o⟩
theorem fV (x y:Fd) (W:World) (n:Nat) (os:Array Obj):CC 137 #[.agg (zN x).toArray,.agg (zN y).toArray] (grow (W.drewN n) os) fun e a=>e=.returned (.int .i64 (xX x y))/\∃q os',a=grow ((grow (W.drewN n) os).drewN q) os':=zBa x y _
theorem zN8 (a c b:Nat) (w:World):CmpLays prog 137 #[] zN kFd xX a c b w:=fun _ _ _ _ x y=>zBa x y _
theorem zAO:∀args w,(callFunc 137 args).run prog w=.ok (.enter 137 args) w:=xaR func137 (by kernel_rfl) rfl
theorem zDs (x:Fd):∀v∈zN x,v.oneCell'=true:=KFd.one x
theorem zSO (c f g a b:Nat) (d:Array Fd) (w:World) (k:HoldsK zN kFd w c f d) (j:c<w.heap.size) (l:a<=b) (h:b<=d.size) (i:d.size<4611686018427387904):CC 236 #[.slice (some ⟨c,f,none⟩) d.size g,.int .i64 a,.int .i64 b,.func (.func 137) #[] #[]] w fun e m =>
   e=.returned (.tuple #[])/\∃n os,m=sortWorldK zN kFd w c f n (Sort.insertionSort (ltOf xX) d a b) os:=AnyQ.insertionSortCmpFunc Tryz.insFnd kFd isAgg171 pD zN (fun _=>rfl) zDs xX 137 #[] c f g a b d w zAO (zN8 c f d.size w) k j l h i
def zNj (w:World) (blk off:Nat) (d:Array Fd) (w':World):Prop:=∃d' n os,PermIn 0 d.size d d'/\SortedIn (ltOf xX) 0 d.size d'/\pZ Fd.key d d'/\w'=sortWorldK zN kFd w blk off n d' os
theorem zIW (p:Option Addr) (a:Nat) (b:Value) (w:World):CC 236 #[.slice p 0 a,.int .i64 0,.int .i64 0,b] w fun e c=>e=.returned (.tuple #[])/\c=w:=by
 go_enter func236,ntmps236
 go_wp2_with fail
 refine xaD 1 ?_;rw [xav];go_wp2_with fail
 go_end0
 exact ⟨rfl,rfl⟩
theorem zDd (p:Option Addr) (cap:Nat) (fv:Value) (w:World):CC 191 #[.slice p 0 cap,.int .i64 0,fv] w fun e w'=>e=.returned (.tuple #[])/\w'=w:=by
 go_enter func191,ntmps191
 go_wp2_with fail
 refine xaD 1 ?_;rw [xav];go_wp2_with (first|(go_at_call 236;refine (zIW _ _ _ _).mono ?_;rintro e w1 ⟨rfl,rfl⟩));refine xaD 1 ?_;rw [xav];go_wp2_with fail
 go_end0
 exact ⟨rfl,rfl⟩
theorem zHD (p:Option Addr) (b:Nat) (a:Value) (w:World):CC 136 #[.slice p 0 b,a] w fun e c=>e=.returned (.tuple #[])/\c=w:=by
 go_enter func136,ntmps136
 go_wp2_with (first|(go_at_call 191;refine (zDd _ _ _ _).mono ?_;rintro e d ⟨rfl,rfl⟩))
 go_end0
 exact ⟨rfl,rfl⟩
end
end
section
open Go.RowKit Go.Sort Go.Lib Go.Shelf
attribute [local go_sem ↓] pD
def kW (a b n:Nat) (d dk:Array Fd):Prop:=dk.size=d.size/\(∀t,t<n->dk[a+t]! = d[b+t]!)/\(∀t,t<n->dk[b+t]! = d[a+t]!)/\∀i,(i<a∨a+n<=i)->(i<b∨b+n<=i)->dk[i]! = d[i]!
theorem kW.zero (a b:Nat) (d:Array Fd):kW a b 0 d d:=⟨rfl,fun t c=>by omega,fun t c=>by omega,fun _ _ _=>rfl⟩
theorem kW.step {a b n:Nat} {d dk:Array Fd} (h:kW a b n d dk) (l:a+n<b) (k:b+n<d.size):kW a b (n+1) d (swp dk (a+n) (b+n)):=by
 obtain ⟨c,g,j,f⟩:=h;refine ⟨by rw [size_swp,c],fun t e=>?_,fun t e=>?_,fun i hi hj=>?_⟩
 ·grind [swp_left,swp_other]
 ·grind [swp_right,swp_other]
 grind [swp_other]
theorem zF5 (f g v a b n:Nat) (u:Value) (m d:Array Fd) (j w:World) (R:RowK zN kFd j f g m) (hs:m.size=d.size) (S:SWK zN kFd j f g d w) (E:a+n<=b) (M:b+n<=d.size) (I:d.size<2305843009213693952):CC 301 #[.slice (some ⟨f,g,none⟩) d.size v,.int .i64 a,.int .i64 b,.int .i64 n,u] w fun e C =>
   e=.returned (.tuple #[])/\∃c,SWK zN kFd j f g c C/\kW a b n d c:=by
 have F:=Tryz.mixed;have D:=isAgg171;have U:=pD;have z:Aside (SWK zN kFd j f g d w):=S;have h:Aside (RowK zN kFd j f g m):=R;go_enter func301,ntmps301;go_wp2_with fail
 go_loopg [10] n (fun t s wr=>∃(i:Nat) (c:Array Fd),s=ii i/\i<=n/\n-i<=t/\Aside (kW a b i d c)/\Aside (SWK zN kFd j f g c wr))
 case atStart=>exact ⟨0,d,rfl,by omega,by omega,kW.zero a b d,z⟩
 obtain ⟨i,c,rfl,hi,T,o,k⟩:=hrel
 by_cases hlt:i<n
 ·have B:(i:Int)<(n:Int):=by omega
  have L:c.size=d.size:=o.out.1;go_wp2_with fail;have K:((a:Int)+(i:Int)).toNat=a+i:=by omega
  have H:(0:Int)<=(a:Int)+(i:Int):=by omega
  have P:(a:Int)+(i:Int)<(d.size:Int):=by omega
  have Q:IntKind.i64.wrap ((a:Int)+(i:Int))=(a:Int)+(i:Int):=by rw [xam];omega
  have N:((b:Int)+(i:Int)).toNat=b+i:=by omega
  have G:(0:Int)<=(b:Int)+(i:Int):=by omega
  have J:(b:Int)+(i:Int)<(d.size:Int):=by omega
  have O:IntKind.i64.wrap ((b:Int)+(i:Int))=(b:Int)+(i:Int):=by rw [xam];omega
  have l:Aside (SWK zN kFd j f g (swp c (a+i) (b+i)) ((wr.drew.setCells f (g+(a+i) * kFd) (zN c[b+i]!)).setCells f (g+(b+i) * kFd) (zN c[a+i]!))):=k.out.swapped h.out (a+i) (b+i) (by omega) (by omega);have r:=k.out.ld1 h.out (by omega) prog (a+i) (by omega);have y:=k.out.ld1 h.out (by omega) prog (b+i) (by omega);have q:=k.out.st1 h.out (by omega) prog (a+i) (by omega) c[b+i]!;have p:=k.out.st2 h.out (by omega) prog (a+i) (b+i) (by omega) (by omega) c[b+i]! c[a+i]!;have x:(zN c[a+i]!).length=kFd:=h.out.hk _;have A:(zN c[b+i]!).length=kFd:=h.out.hk _
  generalize zN c[a+i]! = cI44 at l r p x
  generalize zN c[b+i]! = cJ44 at l y q p A
  go_wp2_with fail
  go_big_region_o
  generalize (wr.drew.setCells f (g+(a+i) * kFd) cJ44).setCells f (g+(b+i) * kFd) cI44=w2 at l ⊢
  go_wp2_with fail
  go_roundg (n-(i+1))
  case measure=>omega
  case rel=>exact ⟨i+1,swp c (a+i) (b+i),by go_num,by omega,by omega,o.out.step (by omega) (by omega),l⟩
 have B:¬ (i:Int)<(n:Int):=by omega
 obtain rfl:i=n:=by omega
 go_wp2_with fail
 go_end0
 exact ⟨rfl,c,k.out,o.out⟩
theorem zOO (f g E a m b:Nat) (D:Value) (s d:Array Fd) (k w:World) (R:RowK zN kFd k f g s) (hs:s.size=d.size) (S:SWK zN kFd k f g d w) (ag:a<m) (ab:m<b) (hb:b<=d.size) (ac:d.size<2305843009213693952):CC 279 #[.slice (some ⟨f,g,none⟩) d.size E,.int .i64 a,.int .i64 m,.int .i64 b,D] w fun e Y =>
   e=.returned (.tuple #[])/\∃c,SWK zN kFd k f g c Y/\Rot a m b d c:=by
 have U:Aside (SWK zN kFd k f g d w):=S;have F:Aside (RowK zN kFd k f g s):=R;have ei:IntKind.i64.wrap ((m:Int)-(a:Int))=((m-a:Nat):Int):=by rw [xam];omega
 have ej:IntKind.i64.wrap ((b:Int)-(m:Int))=((b-m:Nat):Int):=by rw [xam];omega
 go_enter func279,ntmps279
 go_wp2_with fail
 go_loopg [10,11] (b-a) (fun M Q N wr=>∃(i j:Nat) (c:Array Fd),Q=ii i/\N=ii j/\0<i/\0<j/\a+i<=m/\m+j<=b/\i+j<=M/\c.size=d.size/\Aside (∀q,Rot (m-i) m (m+j) c q->Rot a m b d q)/\Aside (SWK zN kFd k f g c wr))
 case atStart=>exact ⟨m-a,b-m,d,rfl,rfl,by omega,by omega,by omega,by omega,by omega,rfl,fun q h=>by rw [show m-(m-a)=a by omega,show m+(b-m)=b by omega] at h;exact h,U⟩
 obtain ⟨i,j,c,rfl,rfl,hi,hj,K,X,af,A,G,I⟩:=hrel;have ad:IntKind.i64.wrap ((m:Int)-(i:Int))=((m-i:Nat):Int):=by rw [xam];omega
 rcases Nat.lt_trichotomy i j with H|H|H
 ·have l:((i:Int)==(j:Int))=false:=beq_eq_false_iff_ne.2 (by omega);have P:¬ (i:Int)=(j:Int):=by omega
  have V:¬ (j:Int)<(i:Int):=by omega
  have e2:IntKind.i64.wrap ((m:Int)+(j:Int))=(m:Int)+(j:Int):=by rw [xam];omega
  have Z:IntKind.i64.wrap ((m:Int)+(j:Int)-(i:Int))=((m+j-i:Nat):Int):=by rw [xam];omega
  have W:IntKind.i64.wrap ((j:Int)-(i:Int))=((j-i:Nat):Int):=by rw [xam];omega
  have l:=zF5 f g E (m-i) (m+j-i) i D s c k wr F.out (by omega) I.out (by omega) (by omega) (by omega);rw [A] at l;have v:=hid l;go_wp2_with (first|(go_at_call 301;refine v.out.mono ?_;rintro e J ⟨rfl,o,n,p⟩;have B:Aside _:=n;have r:Aside _:=p;clear n p));go_roundg j
  case measure=>omega
  case rel =>
   refine ⟨i,j-i,o,rfl,rfl,hi,by omega,K,by omega,by omega,r.out.1.trans A,fun q h=>G.out q ?_,B⟩;obtain ⟨z,C,u,y⟩:=r.out;refine Rot.right (i:=i) (dk:=o) (by omega) (by omega) (by omega) (by omega) z C (fun t O=>?_) (fun x L T=>y x (by omega) (by omega)) (by rw [show m+j-i=m+(j-i) by omega];exact h);exact u t O
 ·subst H;have l:=zF5 f g E (m-i) m i D s c k wr F.out (by omega) I.out (by omega) (by omega) (by omega);rw [A] at l;have v:=hid l;go_wp2_with (first|(go_at_call 301;refine v.out.mono ?_;rintro e J ⟨rfl,o,n,p⟩;have B:Aside _:=n;have r:Aside _:=p;clear n p))
  go_end0
  obtain ⟨z,C,u,y⟩:=r.out;exact ⟨rfl,o,B.out,G.out o (Rot.even (i:=i) (by omega) (by omega) (by omega) (by omega) z C u y)⟩
 have ae:((i:Int)==(j:Int))=false:=beq_eq_false_iff_ne.2 (by omega);have P:¬ (i:Int)=(j:Int):=by omega
 have V:(j:Int)<(i:Int):=by omega
 have W:IntKind.i64.wrap ((i:Int)-(j:Int))=((i-j:Nat):Int):=by rw [xam];omega
 have l:=zF5 f g E (m-i) m j D s c k wr F.out (by omega) I.out (by omega) (by omega) (by omega);rw [A] at l;have v:=hid l;go_wp2_with (first|(go_at_call 301;refine v.out.mono ?_;rintro e J ⟨rfl,o,n,p⟩;have B:Aside _:=n;have r:Aside _:=p;clear n p));go_roundg i
 case measure=>omega
 case rel =>
  refine ⟨i-j,j,o,rfl,rfl,by omega,hj,by omega,X,by omega,r.out.1.trans A,fun q h=>G.out q ?_,B⟩;obtain ⟨z,C,u,y⟩:=r.out;exact Rot.left (j:=j) (dk:=o) (by omega) (by omega) (by omega) (by omega) z C u (fun x L T=>y x (by omega) (by omega)) (by rw [show m-i+j=m-(i-j) by omega];exact h)
end
section
open Go.RowKit Go.Sort Go.Lib Go.Shelf
attribute [local go_sem ↓] pD
theorem zIX (g l ag a m b:Nat) (z d:Array Fd) (o w:World) (R:RowK zN kFd o g l z) (hs:z.size=d.size) (S:SWK zN kFd o g l d w) (U:m=a+1) (al:m<b) (hb:b<=d.size) (am:d.size<2305843009213693952) (I:SortedIn (ltOf xX) m b d):CC 237 #[.slice (some ⟨g,l,none⟩) d.size ag,.int .i64 a,.int .i64 m,.int .i64 b,.func (.func 137) #[] #[]] w fun e w' =>
   e=.returned (.tuple #[])/\∃c,SWK zN kFd o g l c w'/\Mrg (ltOf xX) Fd.key a b d c:=by
 have ao:=Tryz.mixed;have aE:=isAgg171;have zE:=pD;have eg:=zAO;have F:Aside (SWK zN kFd o g l d w):=S;have n:Aside (RowK zN kFd o g l z):=R;have HR:=hid I;have HM:=hid U;have e0:IntKind.i64.wrap ((m:Int)-(a:Int))=1:=by rw [xam];omega
 have an:a<m:=by omega
 clear S R I U;go_enter func237,ntmps237;go_wp2_with fail
 go_loopg [10,11] (b-m) (fun u vi Z wr=>∃(i j:Nat),vi=ii i/\Z=ii j/\m<=i/\i<=j/\j<=b/\j-i<=u/\Hid (m<i->ltOf xX d[i-1]! d[a]! = true)/\Hid (j<b->ltOf xX d[j]! d[a]! = false)/\Aside (SWK zN kFd o g l d wr))
 case atStart=>exact ⟨m,b,rfl,rfl,by omega,by omega,by omega,by omega,fun h=>absurd h (xbI _),fun h=>absurd h (xbI _),F⟩
 clear F;obtain ⟨i,j,rfl,rfl,ah,ae,K,J,H,M,f⟩:=hrel
 by_cases hlt:i<j
 ·have ak:(i:Int)<(j:Int):=by omega
  obtain ⟨h,Y⟩:∃h,(i+j) / 2=h:=⟨_,rfl⟩;have hz:((i:Int)+(j:Int)) / 2=(h:Int):=by omega
  have h1:i<=h:=by omega
  have h2:h<j:=by omega
  clear Y;go_wp2_with fail
  cases hL:ltOf xX d[h]! d[a]! with
  | true =>
   have E:((h:Int)).toNat=h:=by omega
   have C:(0:Int)<=(h:Int):=by omega
   have Q:(h:Int)<(d.size:Int):=by omega
   have N:((a:Int)).toNat=a:=by omega
   have L:(0:Int)<=(a:Int):=by omega
   have V:(a:Int)<(d.size:Int):=by omega
   have s:=f.out.ld n.out (by omega) prog (h) (by omega);have r:=f.out.ld n.out (by omega) prog (a) (by omega);have q:=zCp hL;have A:=hid hL;clear hL
   generalize d[h]! = x at s q
   generalize d[a]! = y at r q
   have hd:decide (xX x y<0)=true:=xas q;have t:=fV x y wr;go_wp2_with fail
   go_quiet_grown (first|(go_at_fn 137;refine xa6 (t _ _)))
   have p:Aside (SWK zN kFd o g l d (grow (wr.drewN nq) osq)):=f.out.grown nq osq;clear s r t f
   generalize grow (wr.drewN nq) osq=w2 at p ⊢
   clear nq osq;go_wp2_with fail;go_roundg (j-(h+1))
   case measure=>omega
   case rel=>exact ⟨h+1,j,by go_num,rfl,by omega,by omega,K,by omega,fun _=>A.out,M,p⟩
  | false =>
  have E:((h:Int)).toNat=h:=by omega
  have C:(0:Int)<=(h:Int):=by omega
  have Q:(h:Int)<(d.size:Int):=by omega
  have N:((a:Int)).toNat=a:=by omega
  have L:(0:Int)<=(a:Int):=by omega
  have V:(a:Int)<(d.size:Int):=by omega
  have s:=f.out.ld n.out (by omega) prog (h) (by omega);have r:=f.out.ld n.out (by omega) prog (a) (by omega);have q:=zBP hL;have A:=hid hL;clear hL
  generalize d[h]! = x at s q
  generalize d[a]! = y at r q
  have hd:decide (xX x y<0)=false:=xar q;have t:=fV x y wr;go_wp2_with fail
  go_quiet_grown (first|(go_at_fn 137;refine xa6 (t _ _)))
  have p:Aside (SWK zN kFd o g l d (grow (wr.drewN nq) osq)):=f.out.grown nq osq;clear s r t f
  generalize grow (wr.drewN nq) osq=w2 at p ⊢
  clear nq osq;go_wp2_with fail;go_roundg (h-i)
  case measure=>omega
  case rel=>exact ⟨i,h,rfl,rfl,ah,h1,by omega,by omega,H,fun _=>A.out,p⟩
 have ak:¬ (i:Int)<(j:Int):=by omega
 obtain rfl:i=j:=by omega
 have e1:IntKind.i64.wrap ((i:Int)-1)=((i-1:Nat):Int):=by rw [xam];omega
 clear ae J hlt;have W:=f;go_wp2_with fail
 go_loopg [13] (b-a) (fun u vk wr=>∃(k:Nat) (c:Array Fd),vk=ii k/\a<=k/\k<=i-1/\i-1-k<=u/\c.size=d.size/\Aside (Rot a (a+1) (k+1) d c)/\Aside (SWK zN kFd o g l c wr))
 case atStart=>exact ⟨a,d,rfl,by omega,by omega,by omega,rfl,zHS _ _ _,W⟩
 clear W f;obtain ⟨k,c,rfl,ai,ap,J,ac,B,f⟩:=hrel
 by_cases hlt:k<i-1
 ·have af:(k:Int)<((i-1:Nat):Int):=by omega
  go_wp2_with fail
  have E:((k:Int)).toNat=k:=by omega
  have C:(0:Int)<=(k:Int):=by omega
  have Q:(k:Int)<(d.size:Int):=by omega
  have ra:IntKind.i64.wrap ((k:Int))=(k:Int):=by rw [xam];omega
  have N:((k:Int)+1).toNat=k+1:=by omega
  have L:(0:Int)<=(k:Int)+1:=by omega
  have V:(k:Int)+1<(d.size:Int):=by omega
  have rc:IntKind.i64.wrap ((k:Int)+1)=(k:Int)+1:=by rw [xam];omega
  have p:Aside (SWK zN kFd o g l (swp c (k) (k+1)) ((wr.drew.setCells g (l+(k) * kFd) (zN c[k+1]!)).setCells g (l+(k+1) * kFd) (zN c[k]!))):=f.out.swapped n.out (k) (k+1) (by omega) (by omega);have P:=f.out.ld1 n.out (by omega) prog (k) (by omega);have T:=f.out.ld1 n.out (by omega) prog (k+1) (by omega);have O:=f.out.st1 n.out (by omega) prog (k) (by omega) c[k+1]!;have v:=f.out.st2 n.out (by omega) prog (k) (k+1) (by omega) (by omega) c[k+1]! c[k]!;have ab:(zN c[k]!).length=kFd:=n.out.hk _;have ad:(zN c[k+1]!).length=kFd:=n.out.hk _
  generalize zN c[k]! = cI44 at p P v ab
  generalize zN c[k+1]! = cJ44 at p T O v ad
  clear f;go_wp2_with fail
  go_big_region_o
  clear P T O v
  generalize (wr.drew.setCells g (l+(k) * kFd) cJ44).setCells g (l+(k+1) * kFd) cI44=w2 at p ⊢
  go_wp2_with fail
  go_roundg (i-1-(k+1))
  case measure=>omega
  case rel=>exact ⟨k+1,swp c k (k+1),by go_num,by omega,by omega,by omega,by rw [size_swp];exact ac,B.out.shift_up ai (by omega),p⟩
 have af:¬ (k:Int)<((i-1:Nat):Int):=by omega
 go_wp2_with fail
 (try simp only [Exit.inBlock,Exit.then]);refine zaB (xbV rfl _ _ _) rfl ?_
 have hk:k+1=i:=by omega
 have D:=B.out;rw [hk] at D;have X:=H.out;have aj:=M.out;have G:=HR.out;rw [HM.out] at X G;exact ⟨rfl,c,f.out,Mrg.one_left zPu zEp D (by omega) K hb G X aj⟩
theorem zHK (l n ag a m b:Nat) (B d:Array Fd) (p w:World) (R:RowK zN kFd p l n B) (hs:B.size=d.size) (S:SWK zN kFd p l n d w) (hm:a+1<m) (F:b=m+1) (hb:b<=d.size) (al:d.size<2305843009213693952) (r:SortedIn (ltOf xX) a m d):CC 237 #[.slice (some ⟨l,n,none⟩) d.size ag,.int .i64 a,.int .i64 m,.int .i64 b,.func (.func 137) #[] #[]] w fun e w' =>
   e=.returned (.tuple #[])/\∃f,SWK zN kFd p l n f w'/\Mrg (ltOf xX) Fd.key a b d f:=by
 have an:=Tryz.mixed;have aE:=isAgg171;have zE:=pD;have eg:=zAO;have H:Aside (SWK zN kFd p l n d w):=S;have o:Aside (RowK zN kFd p l n B):=R;have Y:=hid r;have HM:=hid F;have e0:IntKind.i64.wrap ((m:Int)-(a:Int))=((m-a:Nat):Int):=by rw [xam];omega
 have e1:(((m-a:Nat):Int)==1)=false:=beq_eq_false_iff_ne.2 (by omega);have e2:IntKind.i64.wrap ((b:Int)-(m:Int))=1:=by rw [xam];omega
 have am:m<d.size:=by omega
 clear S R r F;go_enter func237,ntmps237;go_wp2_with fail
 go_loopg [14,15] (m-a) (fun z Z W wr=>∃(i j:Nat),Z=ii i/\W=ii j/\a<=i/\i<=j/\j<=m/\j-i<=z/\Hid (a<i->ltOf xX d[m]! d[i-1]! = false)/\Hid (j<m->ltOf xX d[m]! d[j]! = true)/\Aside (SWK zN kFd p l n d wr))
 case atStart=>exact ⟨a,m,rfl,rfl,by omega,by omega,by omega,by omega,fun h=>absurd h (xbI _),fun h=>absurd h (xbI _),H⟩
 clear H;obtain ⟨i,j,rfl,rfl,ah,ad,af,J,I,L,g⟩:=hrel
 by_cases hlt:i<j
 ·have ak:(i:Int)<(j:Int):=by omega
  obtain ⟨h,V⟩:∃h,(i+j) / 2=h:=⟨_,rfl⟩;have hz:((i:Int)+(j:Int)) / 2=(h:Int):=by omega
  have h1:i<=h:=by omega
  have h2:h<j:=by omega
  clear V;go_wp2_with fail
  cases r:ltOf xX d[m]! d[h]! with
  | false =>
   have G:((m:Int)).toNat=m:=by omega
   have E:(0:Int)<=(m:Int):=by omega
   have P:(m:Int)<(d.size:Int):=by omega
   have M:((h:Int)).toNat=h:=by omega
   have K:(0:Int)<=(h:Int):=by omega
   have T:(h:Int)<(d.size:Int):=by omega
   have u:=g.out.ld o.out (by omega) prog (m) (by omega);have t:=g.out.ld o.out (by omega) prog (h) (by omega);have s:=zBP r;have C:=hid r;clear r
   generalize d[m]! = x at u s
   generalize d[h]! = y at t s
   have hd:decide (xX x y<0)=false:=xar s;have v:=fV x y wr;go_wp2_with fail
   go_quiet_grown (first|(go_at_fn 137;refine xa6 (v _ _)))
   have q:Aside (SWK zN kFd p l n d (grow (wr.drewN nq) osq)):=g.out.grown nq osq;clear u t v g
   generalize grow (wr.drewN nq) osq=w2 at q ⊢
   clear nq osq;go_wp2_with fail;go_roundg (j-(h+1))
   case measure=>omega
   case rel=>exact ⟨h+1,j,by go_num,rfl,by omega,by omega,af,by omega,fun _=>C.out,L,q⟩
  | true =>
  have G:((m:Int)).toNat=m:=by omega
  have E:(0:Int)<=(m:Int):=by omega
  have P:(m:Int)<(d.size:Int):=by omega
  have M:((h:Int)).toNat=h:=by omega
  have K:(0:Int)<=(h:Int):=by omega
  have T:(h:Int)<(d.size:Int):=by omega
  have u:=g.out.ld o.out (by omega) prog (m) (by omega);have t:=g.out.ld o.out (by omega) prog (h) (by omega);have s:=zCp r;have C:=hid r;clear r
  generalize d[m]! = x at u s
  generalize d[h]! = y at t s
  have hd:decide (xX x y<0)=true:=xas s;have v:=fV x y wr;go_wp2_with fail
  go_quiet_grown (first|(go_at_fn 137;refine xa6 (v _ _)))
  have q:Aside (SWK zN kFd p l n d (grow (wr.drewN nq) osq)):=g.out.grown nq osq;clear u t v g
  generalize grow (wr.drewN nq) osq=w2 at q ⊢
  clear nq osq;go_wp2_with fail;go_roundg (h-i)
  case measure=>omega
  case rel=>exact ⟨i,h,rfl,rfl,ah,h1,by omega,by omega,I,fun _=>C.out,q⟩
 have ak:¬ (i:Int)<(j:Int):=by omega
 obtain rfl:i=j:=by omega
 clear ad J hlt;have U:=g;go_wp2_with fail
 go_loopg [17] (m-a) (fun z vk wr=>∃(k:Nat) (f:Array Fd),vk=ii k/\i<=k/\k<=m/\k-i<=z/\f.size=d.size/\Aside (Rot k m (m+1) d f)/\Aside (SWK zN kFd p l n f wr))
 case atStart=>exact ⟨m,d,rfl,by omega,by omega,by omega,rfl,zEH _ _ _,U⟩
 clear U g;obtain ⟨k,f,rfl,ao,ap,J,ab,D,g⟩:=hrel
 by_cases hlt:i<k
 ·obtain ⟨c,rfl⟩:∃c,k=c+1:=⟨k-1,by omega⟩;have ae:(i:Int)<(c:Int)+1:=by omega
  go_wp2_with fail
  have G:((c:Int)+1).toNat=c+1:=by omega
  have E:(0:Int)<=(c:Int)+1:=by omega
  have P:(c:Int)+1<(d.size:Int):=by omega
  have ra:IntKind.i64.wrap ((c:Int)+1)=(c:Int)+1:=by rw [xam];omega
  have M:((c:Int)).toNat=c:=by omega
  have K:(0:Int)<=(c:Int):=by omega
  have T:(c:Int)<(d.size:Int):=by omega
  have rc:IntKind.i64.wrap ((c:Int))=(c:Int):=by rw [xam];omega
  have q:Aside (SWK zN kFd p l n (swp f (c+1) (c)) ((wr.drew.setCells l (n+(c+1) * kFd) (zN f[c]!)).setCells l (n+(c) * kFd) (zN f[c+1]!))):=g.out.swapped o.out (c+1) (c) (by omega) (by omega);have O:=g.out.ld1 o.out (by omega) prog (c+1) (by omega);have Q:=g.out.ld1 o.out (by omega) prog (c) (by omega);have N:=g.out.st1 o.out (by omega) prog (c+1) (by omega) f[c]!;have A:=g.out.st2 o.out (by omega) prog (c+1) (c) (by omega) (by omega) f[c]! f[c+1]!;have X:(zN f[c+1]!).length=kFd:=o.out.hk _;have ac:(zN f[c]!).length=kFd:=o.out.hk _
  generalize zN f[c+1]! = cI44 at q O A X
  generalize zN f[c]! = cJ44 at q Q N A ac
  clear g;go_wp2_with fail
  go_big_region_o
  clear O Q N A
  generalize (wr.drew.setCells l (n+(c+1) * kFd) cJ44).setCells l (n+(c) * kFd) cI44=w2 at q ⊢
  go_wp2_with fail
  go_roundg (c-i)
  case measure=>omega
  case rel=>exact ⟨c,swp f (c+1) c,by first|rfl|go_num,by omega,by omega,by omega,by rw [size_swp];exact ab,D.out.shift_down (by omega) (by omega),q⟩
 have ae:¬ (i:Int)<(k:Int):=by omega
 go_wp2_with fail
 (try simp only [Exit.inBlock,Exit.then]);refine zaB (xbV rfl _ _ _) rfl ?_
 obtain rfl:k=i:=by omega
 have aj:=I.out;have ai:=L.out;rw [HM.out];exact ⟨rfl,f,g.out,Mrg.one_right zPu zEp D.out (by omega) (by omega) (by omega) Y.out aj ai⟩
end
section
open Go.RowKit Go.Sort Go.Lib Go.Shelf
attribute [local go_sem ↓] pD
def zIN (blk off cap:Nat) (d0:Array Fd) (w0:World) (a m b:Nat):Prop:=∀(d:Array Fd) (w:World),d0.size=d.size->b<=d.size->SWK zN kFd w0 blk off d w->SortedIn (ltOf xX) a m d->SortedIn (ltOf xX) m b d ->
  CC 237 #[.slice (some ⟨blk,off,none⟩) d.size cap,.int .i64 a,.int .i64 m,.int .i64 b,.func (.func 137) #[] #[]] w fun e w' =>
   e=.returned (.tuple #[])/\∃dk,SWK zN kFd w0 blk off dk w'/\Mrg (ltOf xX) Fd.key a b d dk
theorem zDl (q u Z a m b:Nat) (M:Array Fd) (o:World) (R:RowK zN kFd o q u M) (hm:a+1<m) (bq:m+1<b) (br:M.size<2305843009213693952)
  (IH:∀a' m' b',a'<m'->m'<b'->b'-a'<b-a->zIN q u Z M o a' m' b'):zIN q u Z M o a m b:=by
 intro d w hs hb S I hR;have bw:=Tryz.mixed;have aE:=isAgg171;have zE:=pD;have eg:=zAO;have S0:Aside (SWK zN kFd o q u d w):=S;have Q:Aside (RowK zN kFd o q u M):=R;have ah:=hid IH;have au:=hid I;have aq:=hid hR;have e0:IntKind.i64.wrap ((m:Int)-(a:Int))=((m-a:Nat):Int):=by rw [xam];omega
 have e1:(((m-a:Nat):Int)==1)=false:=beq_eq_false_iff_ne.2 (by omega);have e2:IntKind.i64.wrap ((b:Int)-(m:Int))=((b-m:Nat):Int):=by rw [xam];omega
 have e3:(((b-m:Nat):Int)==1)=false:=beq_eq_false_iff_ne.2 (by omega);obtain ⟨f,cb⟩:∃f,(a+b) / 2=f:=⟨_,rfl⟩;have bv:((a:Int)+(b:Int)) / 2=(f:Int):=by omega
 have bx:2 * f<=a+b:=by omega
 have bo:a+b<=2 * f+1:=by omega
 obtain ⟨g,az⟩:∃g,f+m=g:=⟨_,rfl⟩;have bz:(f:Int)+(m:Int)=(g:Int):=by omega
 have e5:IntKind.i64.wrap ((g:Int)-1)=((g-1:Nat):Int):=by rw [xam];omega
 have L:=hid az;go_enter func237,ntmps237;go_upto_if 140 with fail
 go_cut [20,21] from 138 to 146 (fun vs X p=>w=p/\∃n k:Nat,vs=ii n/\X=ii k/\n<=k/\((f<m/\n+b=g/\k=f)∨(m<=f/\n=a/\k=m)))
 case first =>
  by_cases i:f<m
  ·have bk:(f:Int)<(m:Int):=by omega
   have e4:IntKind.i64.wrap ((g:Int)-(b:Int))=((g-b:Nat):Int):=by rw [xam];omega
   go_wp2_with fail
   go_meet
   case rel=>exact ⟨rfl,g-b,f,rfl,rfl,by have:=L.out;omega,xac ⟨i,by have:=L.out;omega,rfl⟩⟩
  have bk:¬ (f:Int)<(m:Int):=by omega
  go_wp2_with fail
  go_meet
  case rel=>exact ⟨rfl,a,m,rfl,rfl,by omega,xaf ⟨by omega,rfl,rfl⟩⟩
 case rest =>
 obtain ⟨rfl,n,k,rfl,rfl,bs,bd⟩:=hcut;have bm:a<=n/\k<=m/\k<=f/\g-n<=b/\g-k≥m/\k<g:=by have:=L.out;omega
 have ae:=hid bd;obtain ⟨k1,k2,k3,k4,k5,k6⟩:=bm;go_wp2_with fail
 go_loopg [20,21] (k-n) (fun kx vs X wr=>∃(s r:Nat),vs=ii s/\X=ii r/\n<=s/\s<=r/\r<=k/\r-s<=kx/\Hid (n<s->ltOf xX d[g-s]! d[s-1]! = false)/\Hid (r<k->ltOf xX d[g-1-r]! d[r]! = true)/\Aside (SWK zN kFd o q u d wr))
 case atStart=>exact ⟨n,k,rfl,rfl,by omega,by omega,by omega,by omega,fun h=>absurd h (xbI _),fun h=>absurd h (xbI _),S0⟩
 case round =>
 obtain ⟨s,r,rfl,rfl,ax,ca,be,bt,ad,af,j⟩:=hrel
 by_cases hlt:s<r
 ·have bn:(s:Int)<(r:Int):=by omega
  obtain ⟨c,hh⟩:∃c,(s+r) / 2=c:=⟨_,rfl⟩;have hz:((s:Int)+(r:Int)) / 2=(c:Int):=by omega
  have Y:s<=c:=by omega
  have h2:c<r:=by omega
  have e6:IntKind.i64.wrap (((g-1:Nat):Int)-(c:Int))=((g-1-c:Nat):Int):=by rw [xam];omega
  go_wp2_with fail
  cases I:ltOf xX d[g-1-c]! d[c]! with
  | false =>
   have ea:(((g-1-c:Nat):Int)).toNat=g-1-c:=by omega
   have pa:(0:Int)<=((g-1-c:Nat):Int):=by omega
   have ba:((g-1-c:Nat):Int)<(d.size:Int):=by omega
   have ec:((c:Int)).toNat=c:=by omega
   have pc:(0:Int)<=(c:Int):=by omega
   have bc:(c:Int)<(d.size:Int):=by omega
   have W:=j.out.ld Q.out (by omega) prog (g-1-c) (by omega);have V:=j.out.ld Q.out (by omega) prog (c) (by omega);have G:=zBP I;have HL:=hid I
   generalize d[g-1-c]! = x at W G
   generalize d[c]! = y at V G
   have hd:decide (xX x y<0)=false:=xar G;have i:=fV x y wr;go_wp2_with fail
   go_quiet_grown (first|(go_at_fn 137;refine xa6 (i _ _)))
   have P:Aside (SWK zN kFd o q u d (grow (wr.drewN nq) osq)):=j.out.grown nq osq
   generalize grow (wr.drewN nq) osq=w2 at P ⊢
   go_wp2_with fail
   go_roundg (r-(c+1))
   case measure=>omega
   case rel=>exact ⟨c+1,r,by go_num,rfl,by omega,by omega,be,by omega,fun _=>by rw [show g-(c+1)=g-1-c by omega];exact HL.out,af,P⟩
  | true =>
  have ea:(((g-1-c:Nat):Int)).toNat=g-1-c:=by omega
  have pa:(0:Int)<=((g-1-c:Nat):Int):=by omega
  have ba:((g-1-c:Nat):Int)<(d.size:Int):=by omega
  have ec:((c:Int)).toNat=c:=by omega
  have pc:(0:Int)<=(c:Int):=by omega
  have bc:(c:Int)<(d.size:Int):=by omega
  have W:=j.out.ld Q.out (by omega) prog (g-1-c) (by omega);have V:=j.out.ld Q.out (by omega) prog (c) (by omega);have G:=zCp I;have HL:=hid I
  generalize d[g-1-c]! = x at W G
  generalize d[c]! = y at V G
  have hd:decide (xX x y<0)=true:=xas G;have i:=fV x y wr;go_wp2_with fail
  go_quiet_grown (first|(go_at_fn 137;refine xa6 (i _ _)))
  have P:Aside (SWK zN kFd o q u d (grow (wr.drewN nq) osq)):=j.out.grown nq osq
  generalize grow (wr.drewN nq) osq=w2 at P ⊢
  go_wp2_with fail
  go_roundg (c-s)
  case measure=>omega
  case rel=>exact ⟨s,c,rfl,rfl,ax,Y,by omega,by omega,ad,fun _=>HL.out,P⟩
 have bn:¬ (s:Int)<(r:Int):=by omega
 obtain rfl:s=r:=by omega
 obtain ⟨e,he⟩:∃e,g-s=e:=⟨_,rfl⟩;have e7:IntKind.i64.wrap ((g:Int)-(s:Int))=(e:Int):=by rw [xam];omega
 have bl:m<=e:=by omega
 have am:e<=b:=by omega
 have bg:s<=m:=by omega
 have ai:a<=s:=by omega
 have ao:s+(e-m)=f:=by have:=L.out;omega
 have ak:a<s->e<b->ltOf xX d[e]! d[s-1]! = false:=fun Y h2=>by
  have:=ad.out (by have:=ae.out;have:=L.out;omega);rw [he] at this;exact this
 have ap:s<m->m<e->ltOf xX d[e-1]! d[s]! = true:=fun Y h2=>by
  have:=af.out (by have:=ae.out;have:=L.out;omega);rw [show g-1-s=e-1 by omega] at this;exact this
 have ar:=hid ak;have av:=hid ap;have bu:a<f:=by omega
 have bp:f<b:=by omega
 go_upto_region 39 with fail
 go_cut [185] from 178 to 185 (fun v p=>wr=p/\∃B:Bool,v=.bool B/\Hid (B=true↔(s<m/\m<e)))
 case first =>
  by_cases g1:s<m
  ·have l:(s:Int)<(m:Int):=by omega
   have N:decide ((s:Int)<(m:Int))=true:=xas l
   by_cases g2:m<e
   ·have t:(m:Int)<(e:Int):=by omega
    have T:decide ((m:Int)<(e:Int))=true:=xas t;go_wp2_with fail;go_meet
    case rel=>exact ⟨rfl,true,rfl,⟨fun _=>⟨g1,g2⟩,fun _=>rfl⟩⟩
   have t:¬ (m:Int)<(e:Int):=by omega
   have T:decide ((m:Int)<(e:Int))=false:=xar t;go_wp2_with fail;go_meet
   case rel=>exact ⟨rfl,false,rfl,⟨fun h=>Bool.noConfusion h,fun h=>absurd h.2 g2⟩⟩
  have l:¬ (s:Int)<(m:Int):=by omega
  have N:decide ((s:Int)<(m:Int))=false:=xar l;go_wp2_with fail;go_meet
  case rel=>exact ⟨rfl,false,rfl,⟨fun h=>Bool.noConfusion h,fun h=>absurd h.1 g1⟩⟩
 case rest =>
 obtain ⟨rfl,B,rfl,D⟩:=hcut;go_upto_if 185 with fail
 go_cut [] from 185 to 191 (fun p=>∃z,Aside (SWK zN kFd o q u z p)/\z.size=d.size/\Hid (Rot s m e d z))
 case first =>
  cases B with
  | true =>
   have i:=D.out.1 rfl;have F:=zOO q u Z s m e (.func (.func 137) #[] #[]) M d o wr Q.out hs j.out i.1 i.2 (by omega) (by omega);have U:=hid F;go_wp2_with (first|(go_at_call 279;refine U.out.mono ?_;rintro _ w1 ⟨rfl,z,E,C⟩;have O:Aside _:=E;have J:=hid C;clear E C));go_meet
   case rel=>exact ⟨z,O,J.out.1,J⟩
  | false =>
  have i:¬ (s<m/\m<e):=fun h=>Bool.noConfusion (D.out.2 h)
  have ay:Rot s m e d d:=by
   by_cases e1:s<m
   ·rw [show e=m by omega];exact zHS _ _ _
   rw [show s=m by omega];exact zEH _ _ _
  have H:=hid ay;go_wp2_with fail;go_meet
  case rel=>exact ⟨d,j,rfl,H⟩
 case rest =>
 obtain ⟨z,j,ab,H⟩:=hcut;have al:=zLB (K:=Fd.key) zPu zEp H.out ai bg bl am hb ao au.out aq.out ar.out av.out;obtain ⟨t1,t2,t3,t4⟩:=al;have bb:=hid t1;have bi:=hid t2;have aj:=hid t3;have bh:=hid t4;go_upto_region 41 with fail
 go_cut [199] from 192 to 199 (fun v p=>wc=p/\∃B:Bool,v=.bool B/\Hid (B=true↔(a<s/\s<f)))
 case first =>
  by_cases g1:a<s
  ·have l:(a:Int)<(s:Int):=by omega
   have N:decide ((a:Int)<(s:Int))=true:=xas l
   by_cases g2:s<f
   ·have t:(s:Int)<(f:Int):=by omega
    have T:decide ((s:Int)<(f:Int))=true:=xas t;go_wp2_with fail;go_meet
    case rel=>exact ⟨rfl,true,rfl,⟨fun _=>⟨g1,g2⟩,fun _=>rfl⟩⟩
   have t:¬ (s:Int)<(f:Int):=by omega
   have T:decide ((s:Int)<(f:Int))=false:=xar t;go_wp2_with fail;go_meet
   case rel=>exact ⟨rfl,false,rfl,⟨fun h=>Bool.noConfusion h,fun h=>absurd h.2 g2⟩⟩
  have l:¬ (a:Int)<(s:Int):=by omega
  have N:decide ((a:Int)<(s:Int))=false:=xar l;go_wp2_with fail;go_meet
  case rel=>exact ⟨rfl,false,rfl,⟨fun h=>Bool.noConfusion h,fun h=>absurd h.1 g1⟩⟩
 case rest =>
 obtain ⟨rfl,B,rfl,D⟩:=hcut;go_upto_if 199 with fail
 go_cut [] from 199 to 205 (fun p=>∃A,Aside (SWK zN kFd o q u A p)/\Hid (Mrg (ltOf xX) Fd.key a f z A))
 case first =>
  cases B with
  | true =>
   have i:=D.out.1 rfl;have F:=ah.out a s f i.1 i.2 (by omega) z wc (by omega) (by omega) j.out bb.out bi.out;rw [ab] at F;have U:=hid F;go_wp2_with (first|(go_at_call 237;refine U.out.mono ?_;rintro _ w1 ⟨rfl,A,E,C⟩;have O:Aside _:=E;have J:=hid C;clear E C));go_meet
   case rel=>exact ⟨A,O,J⟩
  | false =>
  have i:¬ (a<s/\s<f):=fun h=>Bool.noConfusion (D.out.2 h)
  have H:=hid (aj.out i);go_wp2_with fail;go_meet
  case rel=>exact ⟨z,j,H⟩
 case rest =>
 obtain ⟨A,j,ag⟩:=hcut;obtain ⟨t1,t2,t3,t4⟩:=bh.out A ag.out;have bj:A.size=z.size:=ag.out.1.1;have bf:=hid t1;have aw:=hid t2;have an:=hid t3;have ac:=hid t4;go_upto_region 43 with fail
 go_cut [213] from 206 to 213 (fun v p=>wc=p/\∃B:Bool,v=.bool B/\Hid (B=true↔(f<e/\e<b)))
 case first =>
  by_cases g1:f<e
  ·have l:(f:Int)<(e:Int):=by omega
   have N:decide ((f:Int)<(e:Int))=true:=xas l
   by_cases g2:e<b
   ·have t:(e:Int)<(b:Int):=by omega
    have T:decide ((e:Int)<(b:Int))=true:=xas t;go_wp2_with fail;go_meet
    case rel=>exact ⟨rfl,true,rfl,⟨fun _=>⟨g1,g2⟩,fun _=>rfl⟩⟩
   have t:¬ (e:Int)<(b:Int):=by omega
   have T:decide ((e:Int)<(b:Int))=false:=xar t;go_wp2_with fail;go_meet
   case rel=>exact ⟨rfl,false,rfl,⟨fun h=>Bool.noConfusion h,fun h=>absurd h.2 g2⟩⟩
  have l:¬ (f:Int)<(e:Int):=by omega
  have N:decide ((f:Int)<(e:Int))=false:=xar l;go_wp2_with fail;go_meet
  case rel=>exact ⟨rfl,false,rfl,⟨fun h=>Bool.noConfusion h,fun h=>absurd h.1 g1⟩⟩
 case rest =>
 obtain ⟨rfl,B,rfl,D⟩:=hcut
 cases B with
 | true =>
  have i:=D.out.1 rfl;have F:=ah.out f e b i.1 i.2 (by omega) A wc (by omega) (by omega) j.out bf.out aw.out;rw [bj,ab] at F;have U:=hid F;go_wp2_with (first|(go_at_call 237;refine U.out.mono ?_;rintro _ w1 ⟨rfl,d3,E,C⟩;have O:Aside _:=E;have J:=hid C;clear E C))
  go_end0
  exact ⟨rfl,d3,O.out,ac.out d3 J.out⟩
 | false =>
 have i:¬ (f<e/\e<b):=fun h=>Bool.noConfusion (D.out.2 h)
 have H:=hid (ac.out A (an.out i));go_wp2_with fail
 go_end0
 exact ⟨rfl,A,j.out,H.out⟩
theorem zOM (e f h:Nat) (c:Array Fd) (g:World) (R:RowK zN kFd g e f c) (i:c.size<2305843009213693952):∀(n a m b:Nat),b-a<=n->a<m->m<b->zIN e f h c g a m b
 | 0,a,m,b,hn,h1,h2=>by omega
 | n+1,a,m,b,hn,h1,h2=>by
  by_cases c1:m=a+1
  ·intro d w j o S p r
   grind [zIX]
  by_cases c2:b=m+1
  ·intro d w j o S p r
   grind [zHK]
  exact zDl e f h a m b c g R (by omega) (by omega) i (fun s l k t q u=>zOM e f h c g R i n s l k (by omega) t q)
end
section
open Go.RowKit Go.Sort Go.Lib Go.Shelf
attribute [local go_sem ↓] pD
theorem zEJ (c d i a b:Nat) (h dk:Array Fd) (g W:World) (R:RowK zN kFd g c d h) (hs:h.size=dk.size) (S:SWK zN kFd g c d dk W) (j:a<=b) (f:b<=dk.size) (m:dk.size<1152921504606846976):CC 236 #[.slice (some ⟨c,d,none⟩) dk.size i,.int .i64 a,.int .i64 b,.func (.func 137) #[] #[]] W fun e k =>
   e=.returned (.tuple #[])/\∃dl,SWK zN kFd g c d dl k/\PermIn a b dk dl/\SortedIn (ltOf xX) a b dl/\pZ Fd.key dk dl:=by
 refine (zSO c d i a b dk W (S.holds R.hblk R.hH hs.symm) (S.lt R.hblk) j f (by omega)).mono ?_;rintro e k ⟨rfl,n,l,rfl⟩;obtain ⟨h1,h2⟩:=insertionSort_holds zPu dk a b j f;exact ⟨rfl,_,S.on R.hblk n _ l h1.1,h1,h2,cX (K:=Fd.key) zEp dk a b f⟩
theorem zOo (i k F:Nat) (d:Array Fd) (w:World) (T:HoldsK zN kFd w i k d) (V:i<w.heap.size) (ap:d.size<1152921504606846976):CC 191 #[.slice (some ⟨i,k,none⟩) d.size F,.int .i64 d.size,.func (.func 137) #[] #[]] w fun e w'=>e=.returned (.tuple #[])/\zNj w i k d w':=by
 have L:Aside (RowK zN kFd w i k d):=⟨fun _=>rfl,zDs,T,V⟩;have Z:Aside (SWK zN kFd w i k d w):=SWK.start T;clear T V;go_enter func191,ntmps191;go_wp2_with fail
 go_loopg [7,8] d.size (fun E O P wr=>∃(A B q:Nat) (a:Array Fd),O=ii A/\P=ii B/\B=A+20/\Hid (A=q * 20)/\A<=d.size/\d.size-A<=E/\Aside (Way Fd.key d a)/\Aside (zBc (ltOf xX) 20 q a)/\Aside (SWK zN kFd w i k a wr))
 case atStart=>exact ⟨0,20,0,d,rfl,rfl,rfl,(show Hid _ from by simp [Hid]),by omega,by omega,Way.refl _ _,zDH _ _ _,Z⟩
 case round =>
 clear Z;obtain ⟨A,B,q,a,rfl,rfl,s,v,ac,ad,h,y,g⟩:=hrel;have H:a.size=d.size:=h.out.size
 by_cases hlt:B<=d.size
 ·have al:(B:Int)<=(d.size:Int):=by omega
  have f:=zEJ i k F A B d a w wr L.out H.symm g.out (by omega) (by omega) (by omega);rw [H] at f;have t:=hid f;have Q:=hid s;have ag:A<B:=by omega
  clear f g s;go_wp2_with (first|(go_at_call 236;refine t.out.mono ?_;rintro e S ⟨rfl,b,l,j,p,r⟩;have u:Aside _:=l;have ab:=hid j;have af:=hid p;have ak:=hid r;clear l j p r));go_roundg (d.size-B)
  case measure=>omega
  case rel =>
   have z:=Q.out;have o:=v.out;have C:=ab.out;have D:=af.out;rw [z,o] at C D;exact ⟨B,B+20,q+1,b,by first|rfl|go_num,by first|rfl|go_num,rfl,(show Hid _ from by show B=_;omega),hlt,by omega,h.out.step ab.out hlt ak.out,y.out.step C D,u⟩
 have al:¬ (B:Int)<=(d.size:Int):=by omega
 have f:=zEJ i k F A d.size d a w wr L.out H.symm g.out ac (by omega) (by omega);rw [H] at f;have t:=hid f
 have J:∀b,PermIn A d.size a b->SortedIn (ltOf xX) A d.size b->vW (ltOf xX) 20 0 d.size b:=fun b N R=>by
  have o:=v.out;refine y.out.last (by omega) ?_ ?_
  ·rw [<-o];exact N
  rw [<-o];exact R
 have G:=hid J;clear f g J s ad;go_wp2_with (first|(go_at_call 236;refine t.out.mono ?_;rintro e S ⟨rfl,b,l,j,p,r⟩;have u:Aside _:=l;have W:Aside (Way Fd.key d b):=h.out.step j (zaL _) r;have X:Aside _:=G.out b j p;clear l j p r));clear t G h y v H
 go_loopg [6] d.size (fun E vc wr=>∃(c:Nat) (a:Array Fd),vc=ii c/\0<c/\d.size-c<=E/\Aside (Way Fd.key d a)/\Aside (vW (ltOf xX) c 0 d.size a)/\Aside (SWK zN kFd w i k a wr))
 case atStart=>exact ⟨20,b,rfl,by omega,by omega,W,X,u⟩
 case round =>
 clear W X u;obtain ⟨c,a,rfl,aq,ad,h,m,g⟩:=hrel
 by_cases hlt:c<d.size
 ·have ae:(c:Int)<(d.size:Int):=by omega
  go_wp2_with fail
  go_loopg [7,8] d.size (fun E O P wr=>∃(A B q:Nat) (a:Array Fd),O=ii A/\P=ii B/\B=A+2 * c/\Hid (A=q * (2 * c))/\A<=d.size/\d.size-A<=E/\Aside (Way Fd.key d a)/\Aside (zBc (ltOf xX) (2 * c) q a)/\Aside (vW (ltOf xX) c A d.size a)/\Aside (SWK zN kFd w i k a wr))
  case atStart=>exact ⟨0,2 * c,0,a,rfl,by first|rfl|go_num,by omega,(show Hid _ from by simp [Hid]),by omega,by omega,h,zDH _ _ _,m,g⟩
  case round =>
  clear h m g;obtain ⟨A,B,q,x,rfl,rfl,s,v,ac,ar,h,y,m,g⟩:=hrel;have K:x.size=d.size:=h.out.size;obtain ⟨M,hM⟩:∃M,A+c=M:=⟨_,rfl⟩;have am:(A:Int)+(c:Int)=(M:Int):=by omega
  by_cases hlt3:B<=d.size
  ·have ai:(B:Int)<=(d.size:Int):=by omega
   have f:=zOM i k F d w L.out (by omega) (B-A) A M B (zaL _) (by omega) (by omega) x wr K.symm (by omega) g.out (by rw [<-hM];exact m.out.first (by omega)) (by rw [<-hM];exact m.out.second (by omega) hlt3);rw [K] at f;have t:=hid f;have Q:=hid s;have ag:A<B:=by omega
   have ao:IntKind.i64.wrap ((B:Int)+2 * (c:Int))=(B:Int)+2 * (c:Int):=by rw [xam];omega
   clear f g s hM;go_wp2_with (first|(go_at_call 237;refine t.out.mono ?_;rintro e S ⟨rfl,b,l,I⟩;have u:Aside _:=l;have U:=hid I;clear l I));go_roundg (d.size-B)
   case measure=>omega
   case rel =>
    obtain ⟨j,p,r⟩:=U.out;have z:=Q.out;have o:=v.out;have C:=j;have D:=p;have Y:=j;rw [z] at Y;rw [z,o] at C D;refine ⟨B,B+2 * c,q+1,b,by first|rfl|go_num,by first|rfl|go_num,rfl,(show Hid _ from ?_),hlt3,by omega,h.out.step j hlt3 r,y.out.step C D,?_,u⟩
    ·show B=(q+1) * (2 * c)
     rw [xbQ,Nat.one_mul,<-o];exact z
    rw [z];exact m.out.step Y
  have ai:¬ (B:Int)<=(d.size:Int):=by omega
  have an:IntKind.i64.wrap ((c:Int) * 2)=(c:Int) * 2:=by rw [xam];omega
  have J:∀b,PermIn A d.size x b->SortedIn (ltOf xX) A d.size b->vW (ltOf xX) (2 * c) 0 d.size b:=fun b N R=>by
   have o:=v.out;refine y.out.last (by omega) ?_ ?_
   ·rw [<-o];exact N
   rw [<-o];exact R
  have G:=hid J;clear J
  by_cases hlt4:M<d.size
  ·have ah:(M:Int)<(d.size:Int):=by omega
   have f:=zOM i k F d w L.out (by omega) (d.size-A) A M d.size (zaL _) (by omega) hlt4 x wr K.symm (by omega) g.out (by rw [<-hM];exact m.out.first (by omega)) (by rw [<-hM];exact m.out.second (by omega) (zaL _));rw [K] at f;have t:=hid f;clear f g hM s;go_wp2_with (first|(go_at_call 237;refine t.out.mono ?_;rintro e S ⟨rfl,b,l,I⟩;have u:Aside _:=l;have U:=hid I;clear l I));go_roundg (d.size-2 * c)
   case measure=>omega
   case rel =>
    obtain ⟨j,p,r⟩:=U.out;exact ⟨2 * c,b,by first|rfl|go_num,by omega,by omega,h.out.step j (zaL _) r,G.out b j p,u⟩
  have ah:¬ (M:Int)<(d.size:Int):=by omega
  have aj:=hid (m.out.short (show d.size<=A+c by omega));clear hM s;go_wp2_with fail;go_roundg (d.size-2 * c)
  case measure=>omega
  case rel=>exact ⟨2 * c,x,by first|rfl|go_num,by omega,by omega,h,G.out x (permIn_refl _ _ _) aj.out,g⟩
 have ae:¬ (c:Int)<(d.size:Int):=by omega
 go_wp2_with fail
 go_end0
 obtain ⟨n,os,hw⟩:=g.out;exact ⟨rfl,a,n,os,h.out.1,m.out.short (by omega),h.out.2,hw⟩
theorem zRb (a b c:Nat) (d:Array Fd) (w:World) (i:HoldsK zN kFd w a b d) (h:a<w.heap.size) (g:d.size<1152921504606846976):CC 136 #[.slice (some ⟨a,b,none⟩) d.size c,.func (.func 137) #[] #[]] w fun e k=>e=.returned (.tuple #[])/\zNj w a b d k:=by
 have j:=hid (zOo a b c d w i h g);go_enter func136,ntmps136;go_wp2_with (first|(go_at_call 191;refine j.o.mono ?_;rintro e l ⟨rfl,f⟩))
 go_end0
 exact ⟨rfl,f⟩
end
section
open Go.RowKit Go.Maps Go.Sort
section
variable {W:World} {L:List yI}
theorem zIM {a b:List Fd} (h:zEh a) (c:a.Perm b):zEh b:=(c.pairwise_iff (fun e k f d=>e k d f)).1 h
theorem zPb {d a:Array Fd} (e:PermIn 0 d.size d a):a.size=d.size/\d.toList.Perm a.toList:=by
 obtain ⟨c,_,b⟩:=e;have f:(a.extract 0 d.size).toList=a.toList:=by rw [<-c];simp
 have g:(d.extract 0 d.size).toList=d.toList:=by simp
 rw [f,g] at b;exact ⟨c,b.symm⟩
theorem zCa (l:List Fd) (c:Ky):(l.map Fd.fnd).filter (fun y=>decide (y.1=c))=(l.filter fun x=>decide (x.key=c)).map Fd.fnd:=by
 rw [List.filter_map];rfl
theorem zHH {v:Value} {m:List Fd} {w:World} (h:tG W.heap.size W v m w) (N:m.length<=2400000000000):CC 136 #[v,.func (.func 137) #[] #[]] w fun e t=>e=.returned (.tuple #[])/\∃l:List Fd,tG W.heap.size W v l t/\l.map Fd.fnd=nK (m.map Fd.fnd):=by
 rcases h.row.own.2 with ⟨rfl,G⟩|⟨g,E,M,rfl,_⟩
 ·obtain rfl:=List.length_eq_zero_iff.1 G;refine (zHD none 0 _ w).mono ?_;rintro e t ⟨rfl,rfl⟩;exact ⟨rfl,[],h,rfl⟩
 have I:=zC.own_ge h.row.own;have K:HoldsK zN kFd w g 0 m.toArray:=zC.own_holds h.row.own;have:=zRb g 0 E m.toArray w K I.2.1 (by simp;omega);simp only [xbk] at this;refine this.mono ?_;rintro e t ⟨rfl,d,n,s,u,x,C,rfl⟩;obtain ⟨D,hperm⟩:=zPb u;have hsz':d.size=m.length:=by simpa using D
 have r:Fr (fun b=>b=g) w (sortWorldK zN kFd w g 0 n d s):=by
  have p:=gY zN kFd (B:=g) (zaR _ w) (by omega) g 0 n d s (zaL _);refine ⟨p.os,p.tape,p.output,p.size,fun k o A=>?_⟩;simp only [sortWorldK,Sort.grow,putRowK,putRow,mapBlock,Sort.ahead];rw [xbB (by grind),xb0,xag (fun e=>A e.symm)]
 have F:∀f,f∈d.toList↔f∈m:=fun f=>by grind
 refine ⟨rfl,d.toList,⟨⟨zC.own_sorted h.row.own d hsz' n s,h.row.bel.trans (r.below h.row.base fun k o=>by omega),zaU h.row.base r.size⟩,fun f J=>?_,zIM h.apart (by omega)⟩,?_⟩
 ·have q:=h.val f ((F f).1 J);refine ⟨yC q.1 r fun k o e=>?_,q.2⟩;subst e;exact zI6 h.row.own q.1 k rfl o
 refine zGu ?_ fun c=>?_
 ·refine List.pairwise_map.2 (List.pairwise_iff_getElem.2 fun i j hi hj H=>?_);have hi':i<d.size:=by simpa using hi
  have hj':j<d.size:=by simpa using hj
  have:=x i j (xaE _) H (by omega);rw [xbn d i hi',xbn d j hj',ltY] at this
  have o:∀a b:Ky,ltOf Z.cmpK a b=yR a b:=fun a b=>by
   rw [xaO];exact (xaQ).trans (zPg a b)
  rw [o] at this;have y:(d.toList[i])=d[i]:=by simp
  have z:(d.toList[j])=d[j]:=by simp
  rw [y,z];exact this
 rw [zCa,zCa];have:=C c
 grind
theorem tG.joined {v1 v2 v3:Value} {d c:List Fd} {i j g:World} (h:tG W.heap.size W v1 d i) (e:tG i.heap.size i v2 c j) (r:g.ownsRow W.heap.size 171 7 v3 (d.length+c.length) (KFd.cells d++KFd.cells c)) (l:j.grownBy g v1.ownBlock):tG W.heap.size W v3 (d++c) g:=by
 have n:Bw i j:=e.row.bel;have h1':=h.on n;have b:∀{B:Nat} u o,zW B j u o->zW B g u o:=fun u o m=>yC m (Fr.of_grown (P:=fun k=>v1.ownBlock=some k) l fun k b=>b) fun k s q=>zI6 h1'.row.own m k q s
 refine ⟨⟨?_,qK h1'.row.bel l (fun k b=>(zaW h1'.row.own k b).1) h1'.row.base,zaU h1'.row.base l.size⟩,fun f a=>?_,List.pairwise_append.2 ⟨h.apart,e.apart,fun x t y p k v w=>?_⟩⟩
 ·show g.ownsRow W.z 171 7 v3 (d++c).length (KFd.cells (d++c))
  rw [xah,KFd.cells_append];exact r
 ·rcases List.mem_append.1 a with a|a
  ·exact ⟨b _ _ (h1'.val f a).1,(h1'.val f a).2⟩
  exact ⟨zM (b _ _ (e.val f a).1) h.row.base,(e.val f a).2⟩
 have A:=(yL (h.val x t).1 k v).2;have C:=(yL (e.val y p).1 k w).1;omega
theorem zQU (h:OkW L) {a:List Fnd} {typ:ByteArray} {mt:List Fld->Bool} {ks:List Ky} (b:ks.Nodup) (d:∀k,(yH L k).isSome=true->k∈ks):nK (sI L a++ks.filterMap (jC L typ mt))=wQ L a typ mt:=by
 unfold wQ;refine zGu (cU _) fun c=>?_
 rw [zAQ,xaV,xaV,zPC h b d c]
theorem zM3 {r:Option Addr} {E:Option Nat} (Z:OkW L) (h:zGW W r E L) (j:Value) (a:List Fd) (u:dC W j a) (typ:ByteArray) (x:Option Addr) (B:Nat) (g:List Tm) (hl:a.length+L.length<=100000000)
  (htk:∀w1,Below W.heap.size W w1->CC 135 #[.pointer r,.string typ,.slice x g.length B] w1 fun e k=>zJI w1 L typ (zR g) e k):CC 84 #[.pointer r,j,.string typ,.slice x g.length B] W fun e k=>cT W (wQ L (a.map Fd.fnd) typ (zR g)) e k:=by
 obtain ⟨X,I,J,P,T⟩:=xaL Tryz.infoFdS;have G:=hid I;have D:=hid (zIQ h j a u (by omega));have y:=hid htk;have S:=hid Z;obtain ⟨pf,cf,rfl⟩:∃p c,j=sc p a.length c:=by obtain ⟨p,c,h1,_⟩:=u.is;exact ⟨p,c,h1⟩
 obtain ⟨n,ad⟩:=eE (zR g);rw [ad] at y ⊢;go_enter func84,ntmps84;go_wp2_with fail;refine D.o.mono ?_;rintro e w1 ⟨v1,fs1,rfl,ht1,hq1⟩;obtain ⟨p1,c1,rfl⟩:=zC.own_shape ht1.row.own;have N:=hid (y.o w1 ht1.row.bel);have m:=hid ht1;have t:=hid hq1;go_wp2_with fail;refine N.o.mono ?_;rintro e w2 ⟨v2,fs2,ks,rfl,ht2,hq2,hn,hall,hkl⟩;obtain ⟨p2,c2,rfl⟩:=zC.own_shape ht2.row.own
 have ae:fs1.length<=a.length:=by
  have:=xad List.length t.o;rw [zaM] at this;rw [this];have:=xaS (fun f:Fnd=>(yH L f.1).isNone) (a.map Fd.fnd);rw [zaM] at this;exact this
 have af:fs2.length<=L.length:=by
  have:=xad List.length hq2;rw [zaM] at this;rw [this];exact zaU (xbm _ _) hkl
 have ac:=zC.src (K:=KFd) (w:=w2) (p:=p2) (d:=fs2) (by
  obtain ⟨p,c,U,h⟩:=zC.own_is ht2.row.own;injection U with e1 _ _
  subst e1;exact h)
 have M:=hid (m.o.on ht2.row.bel).row.own;have ab:=hid (m.o.on ht2.row.bel).row.base;have F:=hid ac;have HJ:Hid (∀i b,b.ownsRow W.z 171 7 i (fs1.length+fs2.length) (KFd.cells fs1++KFd.cells fs2)->w2.grownBy b (Value.slice p1 fs1.length c1).ownBlock->tG W.z W i (fs1++fs2) b):=fun i b Q R=>m.o.joined ht2 Q R
 have Y:Hid (nK ((fs1++fs2).map Fd.fnd)=wQ L (a.map Fd.fnd) typ n):=by
  show nK _=_
  rw [xak,t.o,hq2];exact zQU S.o hn hall
 go_wp2_with (at_builtin;refine tI _ rfl _ _ 43 rfl W.z 171 X _ 7 88 underlying43 G.o J P T rfl (by decide) _ fs1.length (KFd.cells fs1) rfl M.o p2 fs2.length c2 (KFd.cells fs2) rfl (KFd.cells_len fs2) F.o (KFd.cells_ones _) (by unfold maxLen;omega) (by omega) ab.o ?_;intro i b v A;have q:=hid (HJ.o i b v A);clear v A)
 obtain ⟨H,C,rfl⟩:=zC.own_shape q.o.row.own;have V:=hid (zHH q.o (by rw [xah];omega));go_wp2_with fail;refine V.o.mono ?_;rintro e w4 ⟨rfl,l,ht4,hq4⟩;have O:Hid (cT W (wQ L (a.map Fd.fnd) typ n) (.returned (sc H (fs1++fs2).length C)) w4):=⟨_,l,rfl,ht4.row.own,ht4.val,ht4.apart,hq4.trans Y.o,ht4.row.bel⟩;go_wp2_with fail;go_ret;have s:=O.o;rw [xah] at s;exact s
theorem zLe {n0:Nat} {B:Nat->Prop} {g:Nat} (h:qP n0 W B g L) (d:Value) (b:List Fd) (k:dC W d b) (typ:ByteArray) (f:Value) (a:List Tm) (i:KM.Is W f a) (l:qZ a) (n:b.length+L.length<=100000000):CC 84 #[.pointer (some ⟨g,0,none⟩),d,.string typ,f] W fun e o=>cT W (wQ L (b.map Fd.fnd) typ (zR a)) e o:=by
 obtain ⟨m,F,O,h⟩:=h;obtain ⟨pa,pc,rfl⟩:∃p c,f=sc p a.length c:=by obtain ⟨p,c,h1,_⟩:=i;grind
 exact zM3 h.ok (zGW.of h) d b k typ pa pc a n fun q j=>zMF (h.on j) typ pa pc a (zC.is_kept i j) l (by omega)
end
end
section
variable {W:World} {g:Nat}
theorem zRG {w:World} {X:Nat} (e:w.heap[X]? = some (.cells #[.string ⟨#[]⟩,.string ⟨#[]⟩,.int .i64 0,.int .u64 0,.int .i64 0,.bool false,.slice none 0 0] 171 (0,0))) (z:Fd) (d:World) (f:(((((((w.setCell ⟨X,0,none⟩ (.string z.a)).setCell ⟨X,1,none⟩ (.string z.b)).setCell ⟨X,2,none⟩ (.int .i64 z.v.num)).setCell ⟨X,3,none⟩ (.int .u64 z.v.stamp)).setCell ⟨X,4,none⟩ (.int .i64 z.v.tick)).setCell ⟨X,5,none⟩ (.bool z.v.live)).setCell ⟨X,6,none⟩ (.slice z.v.p z.v.o.length z.v.cap))=d):d.heap[X]? = some (.cells #[.string z.a,.string z.b,.int .i64 z.v.num,.int .u64 z.v.stamp,.int .i64 z.v.tick,.bool z.v.live,.slice z.v.p z.v.o.length z.v.cap] 171 (0,0))/\Fr (fun b=>b=X) w d:=by
 rw [<-f];exact ⟨xaa _ X 6 _ _ _ (xaa _ X 5 _ _ _ (xaa _ X 4 _ _ _ (xaa _ X 3 _ _ _ (xaa _ X 2 _ _ _ (xaa _ X 1 _ _ _ (xaa _ X 0 _ _ _ (e))))))),((((((zZ w X 0 _).then (zZ _ X 1 _) fun k c=>xac c).then (zZ _ X 2 _) fun k c=>xac c).then (zZ _ X 3 _) fun k c=>xac c).then (zZ _ X 4 _) fun k c=>xac c).then (zZ _ X 5 _) fun k c=>xac c).then (zZ _ X 6 _) fun k c=>xac c⟩
def zDW (W:World) (f:Fd) (is:Option Vr) (e:Ending) (w':World):Prop:=∃z:Vx,e=.returned (.agg (zN ⟨f.a,f.b,z⟩).toArray)/\z.ver=is.getD zeroV/\zW W.heap.size w' z.sl z.o/\Below W.heap.size W w'
theorem zDb {n0 n:Nat} {D:List zQ} {R id:Int} {h gw:Nat} {ks rs:Value} {U hs hc hq ht:Nat} {af:Int} {B:Nat->Prop} {L:List yI} (x:XAt W g R id h gw ks rs U hs hc hq ht af) (hD:uP n0 U n D W) (hn:n<=2400000000000) (hw:qP n0 W B gw L) (N:Bool) (M:Mk) (f:Fd) (z:yO (f.a,f.b)):CC 87 #[.pointer (some ⟨g,0,none⟩),.agg (zN f).toArray] W fun e w'=>zDW W f (isS D ⟨R,N,M,L⟩ (f.a,f.b)) e w':=by
 obtain ⟨C,E,G,K⟩:=vD W (zN f).toArray #[tq ⟨#[]⟩,tq ⟨#[]⟩,ii 0,iu 0,ii 0,.bool false,sc none 0 0] 171 171;obtain ⟨V,hV⟩:=eE ((W.alloc (.cells (zN f).toArray 171)).alloc (.cells #[tq ⟨#[]⟩,tq ⟨#[]⟩,ii 0,iu 0,ii 0,.bool false,sc none 0 0] 171));obtain ⟨Q,hQ⟩:=eE W.heap.size;rw [hV] at C E G K;rw [hQ] at E G K;have H:=hid C;have J:Hid (V.heap.size=Q+2):=K;have ak:Hid (W.heap.size=Q):=hQ;have ai:=hid E;have ae:=hid G;have S:=hid (zDT (x.on C) (hD.on C) hn (B:=B) (by obtain ⟨m,F,O,hu⟩:=hw;exact ⟨m,F,O,hu.on C⟩) N M (f.a,f.b) z);obtain ⟨is,his⟩:=eE (isS D ⟨R,N,M,L⟩ (f.a,f.b));rw [his] at S ⊢;obtain ⟨fa,fb,⟨fn,fq,ft,fl,fp,fc,fx⟩⟩:=f;simp only [zN,zF,Vx.sl] at *;have a0:V.cell? (aa Q 0)=some (tq fa):=cz E;have a1:V.cell? (aa Q 1)=some (tq fb):=cz E;go_enter func87,ntmps87;go_upto_region 1 with fail
 (try rw [hV]);(try rw [hQ]);go_wp2_with fail;refine S.o.mono ?_;rintro e1 w ⟨y,rfl,hv,hj,Z⟩;obtain ⟨X,hX⟩:=eE w.heap.size;obtain ⟨W2,hW2⟩:=eE (w.alloc (.cells #[ii 0,iu 0,ii 0,.bool false,sc none 0 0] 42));have u:W2.heap[X]? = some (oc #[ii 0,iu 0,ii 0,.bool false,sc none 0 0] 42):=by rw [<-hW2,<-hX];exact xab w _
 have Y:Bw w W2:=by rw [<-hW2];exact zaQ
 have ag:=hid hv;obtain ⟨j,t,l,s,i,d,c⟩:=y;simp only [zF,Vx.sl] at *;obtain ⟨W3,hW3⟩:=eE ((((((W2.setCell (aa X 0) (ii j)).setCell (aa X 1) (iu t)).setCell (aa X 2) (ii l)).setCell (aa X 3) (.bool s)).setCell (aa X 4) (sc i c.length d)));obtain ⟨hbx,fx3⟩:=vB u ⟨j,t,l,s,i,d,c⟩ W3 hW3;have y0:W2.cell? (aa X 0)=some (ii 0):=cz u;have y1:W2.cell? (aa X 1)=some (iu 0):=cz u;have y2:W2.cell? (aa X 2)=some (ii 0):=cz u;have y3:W2.cell? (aa X 3)=some (.bool false):=cz u;have y4:W2.cell? (aa X 4)=some (sc none 0 0):=cz u;have z0:=zaF u;have ad:Bw w W3:=Y.trans (fx3.below Y.size fun k z=>by omega);have I:Bw V W3:=zA Z Z.size ad;have T:Hid (zW V.heap.size W3 (sc i c.length d) c):=yC (P:=fun _=>False) hj (Fr.of_below ad) fun _ _ f=>f
 have al:=hid I;have aj:=hid hbx;have ab:W3.heap[Q]? = some (oc #[tq fa,tq fb,ii fn,iu fq,ii ft,.bool fl,sc fp fx.length fc] 171):=(I.block Q (by have:=J.o;omega)).trans ai.o;have r:W3.heap[Q+1]? = some (oc #[tq ⟨#[]⟩,tq ⟨#[]⟩,ii 0,iu 0,ii 0,.bool false,sc none 0 0] 171):=(I.block (Q+1) (by have:=J.o;omega)).trans ae.o;go_upto_region 2 with fail
 (try rw [hX]);(try rw [hW2]);(try rw [hW3]);have k0:W3.cell? (aa Q 0)=some (tq fa):=cz ab;have k1:W3.cell? (aa Q 1)=some (tq fb):=cz ab;have A:=aj.o;have d0:W3.cell? (aa X 0)=some (ii j):=cz A;have d1:W3.cell? (aa X 1)=some (iu t):=cz A;have d2:W3.cell? (aa X 2)=some (ii l):=cz A;have d3:W3.cell? (aa X 3)=some (.bool s):=cz A;have d4:W3.cell? (aa X 4)=some (sc i c.length d):=cz A;have y0:W3.cell? (aa (Q+1) 0)=some (tq ⟨#[]⟩):=cz r;have y1:W3.cell? (aa (Q+1) 1)=some (tq ⟨#[]⟩):=cz r;have y2:W3.cell? (aa (Q+1) 2)=some (ii 0):=cz r;have y3:W3.cell? (aa (Q+1) 3)=some (iu 0):=cz r;have y4:W3.cell? (aa (Q+1) 4)=some (ii 0):=cz r;have y5:W3.cell? (aa (Q+1) 5)=some (.bool false):=cz r;have y6:W3.cell? (aa (Q+1) 6)=some (sc none 0 0):=cz r;have z0:=zaF r;obtain ⟨p,ac⟩:=eE ((((((((W3.setCell (aa (Q+1) 0) (tq fa)).setCell (aa (Q+1) 1) (tq fb)).setCell (aa (Q+1) 2) (ii j)).setCell (aa (Q+1) 3) (iu t)).setCell (aa (Q+1) 4) (ii l)).setCell (aa (Q+1) 5) (.bool s)).setCell (aa (Q+1) 6) (sc i c.length d)));obtain ⟨hbz,fz⟩:=zRG r ⟨fa,fb,⟨j,t,l,s,i,d,c⟩⟩ p ac;have g0:p.cell? (aa (Q+1) 0)=some (tq fa):=cz hbz;have g1:p.cell? (aa (Q+1) 1)=some (tq fb):=cz hbz;have g2:p.cell? (aa (Q+1) 2)=some (ii j):=cz hbz;have g3:p.cell? (aa (Q+1) 3)=some (iu t):=cz hbz;have g4:p.cell? (aa (Q+1) 4)=some (ii l):=cz hbz;have g5:p.cell? (aa (Q+1) 5)=some (.bool s):=cz hbz;have g6:p.cell? (aa (Q+1) 6)=some (sc i c.length d):=cz hbz
 have ah:Hid (zDW W ⟨fa,fb,⟨fn,fq,ft,fl,fp,fc,fx⟩⟩ is (.returned (.agg #[tq fa,tq fb,ii j,iu t,ii l,.bool s,sc i c.length d])) p):=by
  have q:Bw W W3:=zA H.o H.o.size al.o;have e1:=J.o;have e2:=ak.o;exact ⟨⟨j,t,l,s,i,d,c⟩,rfl,ag.o,zM (yC T.o fz fun k z e=>by have:=(yL T.o k z).1;omega) H.o.size,q.trans (fz.below q.size fun k z=>by omega)⟩
 go_wp2_with fail
 (try rw [ac]);exact zaB (v:=.agg #[tq fa,tq fb,ii j,iu t,ii l,.bool s,sc i c.length d]) (by simp [results,results87,go_sem,g0,g1,g2,g3,g4,g5,g6]) rfl ah.o
theorem zJ2 (I : Ky -> Option Vr) (v : Value) (d : List Fd) (X : KFd.Is W v d) (hl : d.length <= 200000000) (hm : ∀ f ∈ d, yZ (((I (f.a, f.b)).getD zeroV).val) = true)
    (hk : ∀ m, Below W.heap.size W m -> ∀ f ∈ d, CC 87 #[.pointer (some ⟨g,0,none⟩), .agg (zN f).toArray] m fun e l => zDW m f (I (f.a, f.b)) e l):CC 86 #[v, .func (.func 87) #[.pointer (some ⟨g,0,none⟩)] #[]] W fun e m => cT W ((d.map Fd.fnd).map fun f => (f.1, (I f.1).getD zeroV)) e m := by
  obtain ⟨i0, af, ad, ae, ak⟩ := xaL Tryz.infoFdS;have ap := hid af;obtain ⟨LL, hLL⟩ := eE (((d.map Fd.fnd).map fun f => (f.1, (I f.1).getD zeroV)));rw [hLL];have T := hid hLL;obtain ⟨pf, cf, rfl, hat⟩ := X;have ab := hid hat;have HK := hid hk;have HM := hid hm;have an : Hid (tG W.z W (sc none 0 0) [] W /\ ([] : List Fd).map Fd.fnd = LL.take 0) := ⟨tG.nil (zaR _ _) (zaL _), rfl⟩;go_enter func86, ntmps86;go_wp2_with fail
  go_loopg [5, 10] d.length (fun gg v5 vi wr => ∃ (i : Nat) (p : Option Addr) (c : Nat) (L : List Fd), vi = ii i /\ v5 = sc p L.length c /\ i <= d.length /\ d.length - i <= gg /\ L.length <= i /\ Hid (tG W.z W (sc p L.length c) L wr /\ L.map Fd.fnd = LL.take i))
  case atStart => exact ⟨0, none, 0, [], rfl, rfl, by omega, by omega, by simp, an.o⟩
  obtain ⟨i, p, c, L, rfl, rfl, hi, ax, av, j⟩ := hrel
  by_cases hlt : i < d.length
  · have ag : (i : Int) < (d.length : Int) := by omega
    have aw : (0 : Int) <= i := by omega
    have E : Bw W wr := j.o.1.row.bel
    obtain ⟨b1, o1, rfl, k1⟩ : ∃ b off, pf = some (aa b off) /\ KFd.At W b off d := by
      rcases ab.o with h | h
      · rw [h] at hlt; simp at hlt
      exact h
    obtain ⟨y0, y1, y2, y3, y4, y5, y6⟩ := zEi (zC.at_kept k1 E) i hlt
    have aq : LL.take (i + 1) = LL.take i ++ [(((d[i]).a, (d[i]).b), (I ((d[i]).a, (d[i]).b)).getD zeroV)] := by
      rw [<- T.o, zaK (by rw [zaM, zaM]; exact hlt), xa4, xa4];rfl
    have J := hid aq;have am := hid (zaN hlt);have U := hid (HM.o _ (zaN hlt))
    generalize d[i] = f at *
    obtain ⟨V, s⟩ := eE (wr.alloc (.cells (zN f).toArray 171));obtain ⟨O, hO⟩ := eE wr.z;have Q : Bw wr V := by rw [<- s]; exact zaQ
    have k : V.heap[O]? = some (oc (zN f).toArray 171) := by rw [<- s, <- hO]; exact xab wr _
    have R := hid (HK.o V (zA E E.size Q) f am.o);have A := hid Q;obtain ⟨Y, Z⟩ := eE (I (f.a, f.b));rw [Z] at R J U;obtain ⟨fa, fb, ⟨fn, fq, ft, fl, fp, fc, fx⟩⟩ := f;simp only [zN, zF, Vx.sl, zEx, zBK, xaJ] at *;have t0 : V.cell? (aa O 0) = some (tq fa) := cz k;have t1 : V.cell? (aa O 1) = some (tq fb) := cz k;have t2 : V.cell? (aa O 2) = some (ii fn) := cz k;have t3 : V.cell? (aa O 3) = some (iu fq) := cz k;have t4 : V.cell? (aa O 4) = some (ii ft) := cz k;have t5 : V.cell? (aa O 5) = some (.bool fl) := cz k;have t6 : V.cell? (aa O 6) = some (sc fp fx.length fc) := cz k;go_upto_region 5 with fail
    (try rw [hO]);(try rw [s]);go_wp2_with fail;refine R.o.mono ?_;rintro e2 l ⟨z, rfl, P, aj, ar⟩;have hb2' : Bw wr l := zA A.o A.o.size ar;obtain ⟨B, hB⟩ := eE l.z;obtain ⟨W3, hW3⟩ := eE (l.alloc (.cells (zN ⟨fa, fb, z⟩).toArray 171));have N : Bw l W3 := by rw [<- hW3]; exact zaQ
    have au : Hid (W3.heap[B]? = some (oc (KFd.enc ⟨fa, fb, z⟩).toArray 171)) := by
      show _ = _
      rw [<- hW3, <- hB];exact xab l _
    have S : Bw wr W3 := zA hb2' hb2'.size N;have ai := hid (j.o.1.on S).row;have al : yW z.o := (xJ (by rw [show z.o.map Fx.fld = (Y.getD zeroV).val from xad Vr.val P]; exact U.o)).1
    have ao : Hid (∀ (G u : Nat) (r : World), yG KFd W.z W (sc (some (aa G 0)) (L.length + 1) u) (L ++ [⟨fa, fb, z⟩]) r -> W3.grownBy r (Value.slice p L.length c).ownBlock -> tG W.z W (sc (some (aa G 0)) (L.length + 1) u) (L ++ [⟨fa, fb, z⟩]) r /\ (L ++ [(⟨fa, fb, z⟩ : Fd)]).map Fd.fnd = LL.take (i + 1)) := fun G u r q n => by
      refine ⟨j.o.1.push S ⟨fa, fb, z⟩ (aj.on N) A.o.size al q n, ?_⟩;rw [xak, j.o.2, J.o, <- P];rfl
    obtain ⟨t, H, F, D, x, y, w⟩ := z;simp only [zN, zF, Vx.sl] at *
    go_wp2_with (first
      | (at_builtin
         (try rw [hB]); (try rw [hW3]);refine xG KFd rfl _ _ 43 rfl i0 _ 88 underlying43 ap.o ad ae ak rfl W.z W (sc p L.length c) L rfl ai.o ⟨fa, fb, ⟨t, H, F, D, x, y, w⟩⟩ B 1 1 rfl rfl _ _ au.o (by unfold maxLen; omega) (by omega) ?_;intro M K w3 q n r3;have ac := hid (ao.o M K w3 q n);clear q n r3)
      | fail)
    have C : (L ++ [(⟨fa, fb, ⟨t, H, F, D, x, y, w⟩⟩ : Fd)]).length = L.length + 1 := by simp
    go_roundg (d.length - (i + 1))
    case measure => omega
    exact ⟨i + 1, some (aa M 0), K, L ++ [(⟨fa, fb, ⟨t, H, F, D, x, y, w⟩⟩ : Fd)], by go_num, by rw [C], by omega, by omega, by rw [C]; omega, by rw [C]; exact ac.o⟩
  have ag : ¬ (i : Int) < (d.length : Int) := by omega
  have ah : Hid (cT W LL (.returned (sc p L.length c)) wr) := by
    have e : LL.take i = LL := xaj (by rw [<- T.o, zaM, zaM]; omega);exact ⟨_, L, rfl, j.o.1.row.own, j.o.1.val, j.o.1.apart, by rw [j.o.2, e], j.o.1.row.bel⟩
  go_wp2_with fail
  go_ret;exact ah.o
end
section
variable {S:Sv} {typ:ByteArray} {t:Int} {g:Nat} {W:World}
theorem zNM (h:OkS S) {L:List yI} (c:OkW L) {typ:ByteArray} {t:Int} {P:List Fld->Bool} {f:Fnd} (a:f∈wQ L (xK S.D typ t P) typ P):xN f.1.1 f.1.2=true:=by
 unfold wQ sI at a;rw [zEL,List.mem_append] at a
 rcases a with a|a
 ·have b:=(List.mem_filter.1 (List.mem_filter.1 a).1).1;refine h.key f.1 fun e=>?_
  have:=((zAq h.dir).1 b).1;rw [e] at this
  cases this
 obtain ⟨v,q,_⟩:=zBU a;exact c.key _ q
theorem zOi (h:OkS S) {typ:ByteArray} {t:Int} {P:List Fld->Bool} {f:Fnd} (a:f∈xK S.D typ t P):xN f.1.1 f.1.2=true:=by
 have b:=(List.mem_filter.1 a).1;refine h.key f.1 fun e=>?_
 have:=((zAq h.dir).1 b).1;rw [e] at this
 cases this
theorem zQL {w c:World} {v:Value} {d:List Tm} (h:KM.Is w v d) (n:∀j s,w.cell? ⟨g,j,none⟩≠some (.string s)) (l:∀k,k<w.heap.size->k≠g->c.heap[k]? = w.heap[k]?):KM.Is c v d:=by
 obtain ⟨p,x,rfl,h⟩:=h;refine ⟨p,x,rfl,?_⟩
 rcases h with h|⟨b,m,f,h⟩
 ·grind
 by_cases h0:0<d.length
 ·refine xaf ⟨b,m,f,fun i hi j u a=>?_⟩;have o:=zI (h i hi j u a)
  have r:b≠g:=fun e=>by
   rw [e] at h;exact n _ _ (h 0 h0 0 (tq (d[0]).1) rfl)
  have q:=l b o r;exact (xap q).trans (h i hi j u a)
 grind
theorem zMQ {o b:Int} {h i:Nat} {ks rs:Value} {k hs m hq l:Nat} {d:Int} (x:XAt W g o b h i ks rs k hs m hq l d) (a:∃p n c,ks=.slice p n c) (f:∃p n c,rs=.slice p n c):∀j s,W.cell? ⟨g,j,none⟩≠some (.string s):=by
 intro j s e;obtain ⟨u,r,q,rfl⟩:=a;obtain ⟨p2,n2,c2,rfl⟩:=f;rw [zaC x.x] at e
 grind
theorem zL6 {n0 P:Nat} {s:Ps} {c:Nat->Nat} (x:zS n0 W s c) (f:xF P s) (hn:P<=90000000) {i:Nat} {y:Px} (hy:s.xs[i]? = some y) (typ:ByteArray) (H:Option Addr) (I:Nat) (d:List Tm) (hp:KM.Is W (.slice H d.length I) d) (be:qZ d):CC 42 #[.pointer (some ⟨y.g,0,none⟩),.string typ,.slice H d.length I] W fun e l=>XsF n0 (P+1) W s.h (s.xs.map Px.g) c (qA s.D y.tx typ d).1 (yA s.sv i (qA s.D y.tx typ d).2) e l:=by
 have bp:zR (xY d)=zR d:=funext fun v=>zDY d v
 have HX:=hid x;have G:=hid f;have U:=hid hy;have HN:=hid hn;have ap:Hid (∀W',Bw W W'->KM.Is W' (sc H d.length I) d):=fun W' q=>zC.is_kept hp q
 have ah:=hid be;have ae:=hid (zDG (x.endis hy) _ d hp be);obtain ⟨R,bf⟩:=eE (qA s.D y.tx typ d);rw [bf];have bh:=hid bf
 have ay:Hid (zBO y.ended d≠0->R=(([],zBO y.ended d),y.tx)):=fun h=>by
  rw [<-bh.o];unfold qA zBO at *
  by_cases he:y.ended=true
  ·rw [xae (show y.tx.ended=true from he),xae he]
  rw [xag he] at h;rw [xag (show ¬ y.tx.ended=true from he),xae h,xag he]
 have bc:Hid (zBO y.ended d=0->y.ended=false/\nJ d=0/\R=((cG s.D y.tx typ (zR d),0),zHp y.tx typ (xY d))):=fun h=>by
  rw [<-bh.o];unfold qA;unfold zBO at h
  by_cases he:y.ended=true
  ·rw [xae he] at h;cases h
  rw [xag he] at h;rw [xag (show ¬ y.tx.ended=true from he),xag (show ¬ nJ d≠0 from fun q=>q h),bp];exact ⟨by simpa using he,h,rfl⟩
 obtain ⟨g,T⟩:=eE y.g;rw [T] at ae ⊢;obtain ⟨cd,hcd⟩:=eE (zBO y.ended d);rw [hcd] at ae ay bc
 by_cases hc0:cd=0
 ·subst hc0;obtain ⟨ca,cg,cf⟩:=bc.o rfl;have aj:=hid cf;have ab:=hid ca
  have cb:Hid (∀p,Bw W p->CC 83 #[jp g,tq typ,sc H d.length I] p fun e l=>∃N c',e=.returned (.tuple #[])/\N.mk'=sU y.m.mk' (typ,xY d)/\Mid n0 (P+1) W s c { s with xs:=s.xs.set i { y with m:=N } } c' l/\(∀k,k<p.z->c' k=c k)/\p.z<=l.z/\∀k,k<p.z->k≠y.g->l.heap[k]? = p.heap[k]?):=fun p C=>by
   rw [<-T];exact Mid.range HX.o G.o (by have:=HN.o;omega) U.o ab.o C typ _ d (ap.o p C) ah.o cg
  have af:Hid (OkW y.L):=(G.o.okw U.o).wr
  have bb:Hid (y.L.length<=P):=by
   have:=G.o.lod U.o ab.o;show _<=_;omega
  have au:Hid (zT s.D<=4096):=by
   have h1:=G.o.ok.cnt;have h2:=G.o.v4;have h3:(zT s.D:Int)<=s.vers:=h1;show zT s.D<=4096;omega
  have bl:Hid (∀r:List Fd,r.map Fd.fnd=cG s.D y.tx typ (zR d)->∀f∈r,yZ (f.v.o.map Fx.fld)=true):=fun r J f A=>by
   have Q:f.fnd∈cG s.D y.tx typ (zR d):=by rw [<-J];exact xaI A
   exact zJA G.o.ok af.o _ ((zDp G.o.ok.dir).1 Q).2.1
  have bs:Hid (∀(N:Mx) (c2:Nat->Nat) (j:World),Mid n0 (P+1) W s c { s with xs:=s.xs.set i { y with m:=N } } c2 j->KM.Is j (sc H d.length I) d->(j.cell? (aa g 0)=some (iu y.snap)/\j.cell? (aa g 2)=some (jp s.h)/\j.cell? (aa g 3)=some (jp y.gw)/\j.cell? (aa s.h 0)=some (jp s.hd))
    /\ (∀w,Bw j w->CC 85 #[jp s.hd,tq typ,iu y.snap,sc H d.length I] w fun e l=>zDC w (xK s.D typ y.snap (zR d)) e l)
    /\ (∀w E u r,Bw j w->KFd.Own w.z E u r->(∀f∈r,zW w.z E f.v.sl f.v.o/\yZ (f.v.o.map Fx.fld)=true)->r.map Fd.fnd=xK s.D typ y.snap (zR d)->Bw w E->CC 84 #[jp y.gw,u,tq typ,sc H d.length I] E fun e l=>cT E (wQ y.L (xK s.D typ y.snap (zR d)) typ (zR d)) e l)
    /\ (∀w u r,Bw j w->KFd.Is w u r->r.map Fd.fnd=wQ y.L (xK s.D typ y.snap (zR d)) typ (zR d)->CC 86 #[u,.func (.func 87) #[jp g] #[]] w fun e l=>cT w (cG s.D y.tx typ (zR d)) e l)):=fun N c2 j Q bd=>by
   have hy':=zIL (z:={ y with m:=N }) U.o;have Z:=Q.prg.xat hy' ab.o;obtain ⟨B,hw,_⟩:=Q.prg.wrt hy' ab.o;have hD:uP n0 s.hd s.nv s.D j:=Q.prg.dirS;have cj:s.nv<=P:=by have:=G.o.room;omega
   have cl:=HN.o;obtain ⟨x0,_,x2,x3,_⟩:=Z.xc;obtain ⟨s0,_⟩:=Z.sc;have am:OkD s.D:=G.o.ok.dir;refine ⟨⟨by rw [<-T];exact x0,by rw [<-T];exact x2,by rw [<-T];exact x3,s0⟩,fun w C=>?_,fun w E u r C M Y J ai=>?_,fun w u r C M J=>?_⟩
   ·exact zNZ (hD.on C) (by omega) typ y.snap H I d (zC.is_kept bd C) ah.o
   ·have V:Bw j E:=zA C C.size ai
    have aw:r.length<=4096:=by
     have X:r.length=(xK s.D typ y.snap (zR d)).length:=by rw [<-J,zaM]
     have e2:(xK s.D typ y.snap (zR d)).length<=(pM s.D y.snap).length:=xaS _ _;have e3:(pM s.D y.snap).length<=s.D.length:=xbm _ _;have e4:=zK0 am;have:=au.o;omega
    have hl:=bb.o;have q:=zLe (n0:=n0) (B:=B) (W:=E) (g:=y.gw) (L:=y.L) (by obtain ⟨m,F,O,M⟩:=hw;exact ⟨m,F,O,M.on V⟩) u r ⟨zC.own_is M,fun f A=>⟨(Y f A).1.1.is,(xJ (Y f A).2).1,(xJ (Y f A).2).2⟩,fun f A=>?_⟩ typ (sc H d.length I) d (zC.is_kept bd V) ah.o (by omega)
    ·rw [J] at q;exact q
    have Q:f.fnd∈xK s.D typ y.snap (zR d):=by rw [<-J];exact xaI A
    exact key_fit (zOi G.o.ok Q)
   have bt:∀f∈r,f.fnd∈wQ y.L (xK s.D typ y.snap (zR d)) typ (zR d):=fun f A=>by rw [<-J];exact xaI A
   have aw:r.length<=200000000:=by
    have X:r.length=(wQ y.L (xK s.D typ y.snap (zR d)) typ (zR d)).length:=by rw [<-J,zaM]
    have e2:=zKh am y.L typ y.snap (zR d);have:=au.o;have:=bb.o;omega
   refine (zJ2 (g:=g) (fun k=>isS s.D y.tx k) u r M aw (fun f A=>?_) fun l bx f A=>?_).mono fun e l q=>?_
   ·cases hv:isS s.D y.tx (f.a,f.b) with
    | none=>exact pC
    | some v=>exact zJA G.o.ok af.o _ hv
   ·have al:Bw j l:=zA C C.size bx;have q:=zDb (n0:=n0) (n:=s.nv) (D:=s.D) (B:=B) (L:=y.L) (Z.on al) (hD.on al) (by omega) (by obtain ⟨m,F,O,M⟩:=hw;exact ⟨m,F,O,M.on al⟩) y.ended y.m.mk' f (key_fit (zNM G.o.ok af.o (bt f A)));rw [<-T];exact q
   rw [J] at q;have X:=zMD (D:=s.D) am (x:=y.tx) af.o typ (zR d);rw [<-X];exact q
  have bk:Hid (∀p j:World,Bw W p->p.z<=j.z->(∀k,k<p.z->k≠y.g->j.heap[k]? = p.heap[k]?)->KM.Is j (sc H d.length I) d):=fun p j C hs hk=>by
   have Z:=(HX.o.on C).xat U.o ab.o;exact zQL (ap.o p C) (zMQ Z ⟨_,_,_,rfl⟩ ⟨_,_,_,rfl⟩) hk
  go_enter func42,ntmps42
  go_wp2_with fail
  refine ae.o.mono ?_;rintro X p ⟨rfl,ac⟩;have bm:=hid ac;have cc:=hid (cb.o p ac);go_wp2_with fail;refine cc.o.mono ?_;rintro e2 j ⟨N,c2,rfl,hmk,hmid,hc2,hs2,hbk⟩;obtain ⟨hcells,hscan,hover,heach⟩:=bs.o N c2 j hmid (bk.o p j bm.o hs2 hbk);have ba:=hid hmid
  have bv:Hid (Ps.sv { s with xs:=s.xs.set i { y with m:=N } }=yA s.sv i (zHp y.tx typ (xY d))):=by
   show _=_
   rw [uC];show yA s.sv i ⟨y.snap,y.ended,N.mk',y.L⟩=_;rw [hmk];rfl
  obtain ⟨x0,x2,x3,s0⟩:=hcells
  have HS:Hid (∀l,Bw j l->l.cell? (aa g 0)=some (iu y.snap)/\l.cell? (aa g 2)=some (jp s.h)/\l.cell? (aa g 3)=some (jp y.gw)/\l.cell? (aa s.h 0)=some (jp s.hd)):=fun l q =>
   ⟨(q.cell (zI x0)).trans x0,(q.cell (zI x2)).trans x2,(q.cell (zI x3)).trans x3,(q.cell (zI s0)).trans s0⟩
  have br:=HS.o j (zaR _ _);have ci:=hid (hscan (j.drewN 1) (zG (zaR j.z j) 1));have ce:=hid hover;have bj:=hid heach;have bi:Hid (W.z<=j.z):=hmid.fr.size
  generalize xK s.D typ y.snap (zR d)=SD at *
  generalize wQ y.L SD typ (zR d)=OW at *
  generalize cG s.D y.tx typ (zR d)=SC at *
  go_upto_region 5 with fail
  refine tkb (S:=fun l=>l.cell? (aa g 0)=some (iu y.snap)/\l.cell? (aa g 2)=some (jp s.h)/\l.cell? (aa g 3)=some (jp y.gw)/\l.cell? (aa s.h 0)=some (jp s.hd)) br fun t=>?_;refine tkv4 0 1 2 3 (jp g) (jp g) (.pointer (some (aa g 3))) (jp y.gw) t ?_;simp only [Act.put,sz];refine tkv4 4 5 6 7 (jp g) (jp g) (.pointer (some (aa g 2))) (jp s.h) t ?_;simp only [Act.put,sz];refine tkv4 8 9 10 11 (jp s.h) (jp s.h) (jp s.h) (jp s.hd) t ?_;simp only [Act.put,sz];refine tkv4 12 13 14 15 (tq typ) (jp g) (jp g) (jp g) t ?_;simp only [Act.put,sz];refine tkv4 16 17 19 20 (iu y.snap) (sc H d.length I) (tq typ) (sc H d.length I) t ?_;simp only [Act.put,sz];refine tkc 18 fun K hK=>?_
  go_simp
  refine ci.o.mono ?_;rintro e3 w ⟨u,r,rfl,M,Y,J,bg⟩;have an:Bw j w:=zA (zG (zaR j.z j) 1) (by simp) bg;have bn:=hid (ce.o (j.drewN 1) w u r (zG (zaR j.z j) 1) M Y J bg);have bz:=HS.o w an;have az:=hid an;obtain ⟨up,uc,rfl⟩:=zC.own_shape M;refine hK.out _ _ bz (fun t=>?_)
  try simp only [Act.put,sz]
  refine tkc 21 fun K hK=>?_
  go_simp
  refine bn.o.mono ?_;rintro e4 E ⟨u2,ar,rfl,ao,_,_,bo,ai⟩;have V:Bw j E:=zA az.o az.o.size ai;have bq:=HS.o E V;have bw:=hid (bj.o E u2 ar V (zC.own_is ao) bo);have ad:=hid V;obtain ⟨up2,uc2,rfl⟩:=zC.own_shape ao;refine hK.out _ _ bq (fun t=>?_)
  try simp only [Act.put,sz]
  refine tkv 22 (sc up2 ar.length uc2) t ?_;simp only [Act.put,sz];refine tkd ?_;go_wp2_with fail;refine bw.o.mono ?_;rintro e5 w5 ⟨u3,ak,rfl,av,bu,_,ax,aq⟩;obtain ⟨up3,uc3,rfl⟩:=zC.own_shape av
  have ag:Hid (XsF n0 (P+1) W s.h (s.xs.map Px.g) c R.1 (yA s.sv i R.2) (.returned (.tuple #[sc up3 ak.length uc3,ii 0])) w5):=by
   show XsF _ _ _ _ _ _ _ _ _ _
   rw [aj.o];have ch:=zA ad.o ad.o.size aq;refine ⟨E,w5,⟨_,ak,rfl,av,fun f A=>⟨(bu f A).1,bl.o ak ax f A⟩,ax,aq⟩,(ba.o.on ch).stepB bv.o (zaU bi.o ad.o.size) (zaL _) fun k h1 h2=>⟨ba.o.prg.out k (zaU ad.o.size h1),rfl⟩⟩
  go_wp2_with fail
  go_ret2
  exact ag.o
 have aj:=hid (ay.o hc0);have ck:(cd==0)=false:=by simpa using hc0
 go_enter func42,ntmps42
 go_wp2_with fail
 refine ae.o.mono ?_;rintro X p ⟨rfl,ac⟩
 have ag:Hid (XsF n0 (P+1) W s.h (s.xs.map Px.g) c R.1 (yA s.sv i R.2) (.returned (.tuple #[sc none 0 0,ii cd])) p):=by
  show XsF _ _ _ _ _ _ _ _ _ _
  rw [aj.o];exact ⟨p,p,zCu p cd,(Mid.start HX.o G.o (xax P) ac).stepB (xC (qU U.o)).symm ac.size (zaL _) fun k h1 h2=>by omega⟩
 go_wp2_with fail
 go_ret2
 exact ag.o
end
section
variable {w X X1 u u3:World} {B:Nat} {phv:Option Vr} {z:Vx}
theorem Tryz.verSize:(prog.info? 42).map (·.size)=some 5:=by kernel_rfl
theorem wF (z:Vx):(zF z).toArray.all (·.oneCell')=true:=xbF (KV.one z)
theorem zJz {cs:Array Value} (a:w.heap[B]? = some (.cells cs 42 (0,0))) (hs:cs.size=5) (z:Vx):Hid (w.there B 0 (zF z).toArray.size)/\∃W4,Hid (w.setCells B 0 (zF z).toArray.toList=W4/\W4.heap[B]? = some (.cells (zF z).toArray 42 (0,0))/\Fr (fun b=>b=B) w W4):=by
 obtain ⟨f,d⟩:=tH (W:=w.setCells B 0 (zF z)) a (by rw [hs];rfl) rfl;have c:=(xQ (cs:=cs.toList) a).2;have e:cs.toList.length=(zF z).toArray.size:=by rw [xaB,hs];rfl
 rw [e] at c;exact ⟨hid c,_,hid ⟨rfl,f,d⟩⟩
def zQ6 (A:Nat) (w3 cw:World):Prop:=w3.heap.size<=cw.heap.size/\∀k,A<=k->k<w3.heap.size->cw.heap[k]? = w3.heap[k]?
def AtC (X:World) (phv:Option Vr) (z:Vx) (B:Nat) (wx:World):Prop:=wx.heap[B]? = some (.cells #[.int .i64 z.num,.int .u64 z.stamp,.int .i64 z.tick,.bool z.live,.slice z.p z.o.length z.cap] 42 (0,0))/\X.heap.size<=B/\Below X.heap.size X wx/\z.ver=phv.getD zeroV/\yW z.o/\∃A w3,X.heap.size<=A/\zW A w3 z.sl z.o/\w3.heap.size<=wx.heap.size/\∀k,A<=k->k<w3.heap.size->wx.heap[k]? = w3.heap[k]?
theorem zRJ {d a f:World} {A:Nat} (j:X.heap.size<=A) (hj:zW A a z.sl z.o) (h:Below X.heap.size X d) (e:zQ6 A a d) (l:X.heap.size<=B) (n:B<A∨a.heap.size<=B) (c:Fr (fun b=>b=B) d f)
  (hbz:f.heap[B]? = some (.cells #[.int .i64 z.num,.int .u64 z.stamp,.int .i64 z.tick,.bool z.live,.slice z.p z.o.length z.cap] 42 (0,0))) (hv:z.ver=phv.getD zeroV) (hf:yW z.o):AtC X phv z B f:=⟨hbz,l,h.trans (c.below h.size fun k m=>by omega),hv,hf,A,a,j,hj,zaU e.1 c.size,fun k i g=>(c.block k (zaT g e.1) (by omega)).trans (e.2 k i g)⟩
def zR2 (X:World) (phv:Option Vr) (z:Vx) (B:Nat) (u:World):Prop:=u.heap[B]? = some (.cells #[.int .i64 0,.int .u64 0,.int .i64 0,.bool false,.slice none 0 0] 42 (0,0))/\X.heap.size<=B/\Below X.heap.size X u/\z.ver=phv.getD zeroV/\yW z.o/\∃A w3,X.heap.size<=A/\zW A w3 z.sl z.o/\zQ6 A w3 u/\(B<A∨w3.heap.size<=B)
theorem kH (a:Below X.heap.size X X1):∃B u,Hid (X1.heap.size=B/\X1.alloc (.cells #[.int .i64 0,.int .u64 0,.int .i64 0,.bool false,.slice none 0 0] 42)=u)/\Hid (u.heap[B]? = some (.cells #[.int .i64 0,.int .u64 0,.int .i64 0,.bool false,.slice none 0 0] 42 (0,0))/\X.heap.size<=B/\Below X.heap.size X u/\B<u.heap.size):=by
 have h:=xab X1 (.cells #[ii 0,iu 0,ii 0,.bool false,sc none 0 0] 42);exact ⟨_,_,hid ⟨rfl,rfl⟩,hid ⟨h,a.size,zA a a.size (zaQ),(gA h).1⟩⟩
theorem fR (h:u.heap[B]? = some (.cells #[.int .i64 0,.int .u64 0,.int .i64 0,.bool false,.slice none 0 0] 42 (0,0))/\X.heap.size<=B/\Below X.heap.size X u/\B<u.heap.size) (c:z.ver=phv.getD zeroV) (hj:zW u.heap.size u3 z.sl z.o) (b:yW z.o) (a:Below u.heap.size u u3):Hid (zR2 X phv z B u3):=hid ⟨(a.block B h.2.2.2).trans h.1,h.2.1,zA h.2.2.1 h.2.2.1.size a,c,b,_,u3,h.2.2.1.size,hj,⟨zaL _,fun _ _ _=>rfl⟩,xac h.2.2.2⟩
theorem zBQ {a:World} (h:Below X.heap.size X X1) (d:z.ver=phv.getD zeroV) (hj:zW X1.heap.size a z.sl z.o) (f:yW z.o) (g:Below X1.heap.size X1 a):∃B u,Hid (a.heap.size=B/\a.alloc (.cells #[.int .i64 0,.int .u64 0,.int .i64 0,.bool false,.slice none 0 0] 42)=u)/\Hid (zR2 X phv z B u):=by
 obtain ⟨B,u,b,H⟩:=kH (zA h h.size g);obtain ⟨rfl,rfl⟩:=b.o;have c:Bw a _:=(zaR a.z a).alloc (zaL _) (.cells #[ii 0,iu 0,ii 0,.bool false,sc none 0 0] 42);exact ⟨_,_,b,hid ⟨H.out.1,H.out.2.1,H.out.2.2.1,d,f,_,a,h.size,hj,⟨c.size,fun k _ e=>c.block k e⟩,xaf (zaL _)⟩⟩
theorem zDU (h:zR2 X phv z B u):Hid (u.there B 0 (zF z).toArray.size)/\∃W4,Hid (u.setCells B 0 (zF z).toArray.toList=W4)/\Hid (AtC X phv z B W4):=by
 obtain ⟨b,d,f,c,j,A,k,g,i,a,e⟩:=h;obtain ⟨HT,W4,H⟩:=zJz b rfl z;exact ⟨HT,W4,hid H.out.1,hid (zRJ g i f a d e H.out.2.2 H.out.2.1 c j)⟩
theorem zQB (h:u.heap[B]? = some (.cells #[.int .i64 0,.int .u64 0,.int .i64 0,.bool false,.slice none 0 0] 42 (0,0))/\X.heap.size<=B/\Below X.heap.size X u/\B<u.heap.size) (a:Below u.heap.size u u3):Hid (u3.heap[B]? = some (.cells #[.int .i64 0,.int .u64 0,.int .i64 0,.bool false,.slice none 0 0] 42 (0,0))/\X.heap.size<=B/\Below X.heap.size X u3/\B<u3.heap.size):=hid ⟨(a.block B h.2.2.2).trans h.1,h.2.1,zA h.2.2.1 h.2.2.1.size a,zaT h.2.2.2 a.size⟩
theorem vJ {X:Nat} {P:World->Prop} (d:w.heap[X]? = some (.cells #[.int .i64 0,.int .u64 0,.int .i64 0,.bool false,.slice none 0 0] 42 (0,0))) (e:∀a,Fr (fun b=>b=X) w a->P a):Hid (w.there X 0 (zF z).toArray.size)/\∃a,Hid (w.setCells X 0 (zF z).toArray.toList=a/\P a)/\a.cell? ⟨X,0,none⟩=some (.int .i64 z.num)/\a.cell? ⟨X,1,none⟩=some (.int .u64 z.stamp)/\a.cell? ⟨X,2,none⟩=some (.int .i64 z.tick)/\a.cell? ⟨X,3,none⟩=some (.bool z.live)/\a.cell? ⟨X,4,none⟩=some (.slice z.p z.o.length z.cap):=by
 obtain ⟨c,a,H⟩:=zJz d rfl z;refine ⟨c,a,hid ⟨H.out.1,e a H.out.2.2⟩,?_,?_,?_,?_,?_⟩<;>(rw [zaC H.out.2.1];rfl)
end
section
open Go.RowKit Go.Lib
section
variable {W:World} {n0 g n:Nat} {D:List zQ}
theorem nZ (w:World) (d a e:Array Value) (c b f:TypeId):Below w.heap.size w (((w.alloc (.cells d c)).alloc (.cells a b)).alloc (.cells e f))/\(((w.alloc (.cells d c)).alloc (.cells a b)).alloc (.cells e f)).heap[w.heap.size]? = some (.cells d c (0,0))/\(((w.alloc (.cells d c)).alloc (.cells a b)).alloc (.cells e f)).heap[w.heap.size+1]? = some (.cells a b (0,0))/\(((w.alloc (.cells d c)).alloc (.cells a b)).alloc (.cells e f)).heap[w.heap.size+2]? = some (.cells e f (0,0))/\(((w.alloc (.cells d c)).alloc (.cells a b)).alloc (.cells e f)).heap.size=w.heap.size+3:=by
 obtain ⟨k,l,m,i⟩:=zB2 w d a c b;have h:Below ((w.alloc (.cells d c)).alloc (.cells a b)).heap.size ((w.alloc (.cells d c)).alloc (.cells a b)) (((w.alloc (.cells d c)).alloc (.cells a b)).alloc (.cells e f)):=zaQ;have j:=xab ((w.alloc (.cells d c)).alloc (.cells a b)) (.cells e f);rw [i] at j;exact ⟨zA k k.size h,(h.block _ (by omega)).trans l,(h.block _ (by omega)).trans m,j,by rw [xba,i]⟩
def NwV (W:World) (r:Option Vr × Int) (e:Ending) (w':World):Prop:=∃x:Vx,e=.returned (.tuple #[.agg (zF x).toArray,.int .i64 r.2])/\x.ver=r.1.getD zeroV/\(zW W.heap.size w' x.sl x.o/\yW x.o)/\Below W.heap.size W w'
def NwB (W:World) (o:Option Vr) (e:Ending) (w':World):Prop:=∃(x:Vx) (b:Bool),e=.returned (.tuple #[.agg (zF x).toArray,.bool b])/\b=o.isSome/\x.ver=o.getD zeroV/\(zW W.heap.size w' x.sl x.o/\yW x.o)/\Below W.heap.size W w'
theorem zCB {o:Option Vr} {e:Ending} {b:World} (h:vZ W o e b) (i:∀v,o=some v->yZ v.val=true):NwB W o e b:=by
 obtain ⟨x,rfl,a,d,c⟩:=h;refine ⟨x,o.isSome,rfl,rfl,a,⟨d,?_⟩,c⟩
 cases o with
 | none =>
  have:x.o.map Fx.fld=[]:=xad Vr.val a;rw [List.map_eq_nil_iff] at this;rw [this];exact ⟨by decide,fun x f=>by cases f⟩
 | some v =>
 have:x.o.map Fx.fld=v.val:=xad Vr.val a
 grind [xJ]
theorem sG {V w f:World} {Q:Nat} {x:Vx} {r:Option Vr × Int} (hs:Hid (V.heap.size=Q+3)) (i:Hid (W.heap.size=Q)) (j:x.ver=r.1.getD zeroV) (a:zW V.heap.size w x.sl x.o/\yW x.o) (h:Below W.heap.size W w) (d:Fr (fun b=>b=Q+2) w f):NwV W r (.returned (.tuple #[.agg (zF x).toArray,.int .i64 r.2])) f:=by
 have m:=hs.out;have l:=i.out;exact ⟨x,rfl,j,⟨zM (yC a.1 d fun k c e=>by have:=(yL a.1 k c).1;omega) (by omega),a.2⟩,h.trans (d.below h.size fun k c=>by omega)⟩
theorem pE (N:Nat) (w:World):zW N w yB.sl yB.o/\yW yB.o:=⟨vO N w,(zPx w).2⟩
theorem zOq (h:uP n0 g n D W) (fl c t:Int) (k:Ky) (hk:yO k):CC 92 #[.pointer (some ⟨g,0,none⟩),sM fl c,.int .u64 t,.agg #[.string k.1,.string k.2]] W fun e y=>NwV W (sW D fl c t k) e y:=by
 obtain ⟨N,C,G,i,F⟩:=nZ W #[iu fl,iu c] #[tq k.1,tq k.2] #[ii 0,iu 0,ii 0,.bool false,sc none 0 0] 175 36 42;obtain ⟨V,hV⟩:=eE (((W.alloc (.cells #[iu fl,iu c] 175)).alloc (.cells #[tq k.1,tq k.2] 36)).alloc (.cells #[ii 0,iu 0,ii 0,.bool false,sc none 0 0] 42));obtain ⟨Q,hQ⟩:=eE W.heap.size;rw [hV] at N C G i F;rw [hQ] at C G i F;have l:=hid N;have K:=hid h;have ag:=hid hk
 have s:Hid (∀j,Bw V j->(j.cell? (aa Q 0)=some (iu fl)/\j.cell? (aa Q 1)=some (iu c))/\(j.cell? (aa (Q+1) 0)=some (tq k.1)/\j.cell? (aa (Q+1) 1)=some (tq k.2))/\j.heap[Q+2]? = some (oc #[ii 0,iu 0,ii 0,.bool false,sc none 0 0] 42)):=fun j I=>by
  have M:=(I.block Q (by omega)).trans C;have T:=(I.block (Q+1) (by omega)).trans G;have e2:=(I.block (Q+2) (by omega)).trans i;exact ⟨⟨by rw [zaC M];rfl,by rw [zaC M];rfl⟩,⟨by rw [zaC T];rfl,by rw [zaC T];rfl⟩,e2⟩
 obtain ⟨⟨f0,f1⟩,⟨a0,a1⟩,_⟩:=s.o V (zaR _ _);have J:Hid (V.heap.size=Q+3):=F;have H:Hid (W.heap.size=Q):=hQ;have u:=hid (nM g fl c t V);obtain ⟨ka,kb⟩:=k;unfold sM at *;simp only at *
 by_cases hlow:t<fl
 ·have q:Hid (sW D fl c t (ka,kb)=(none,8)):=by show _=_;unfold sW;rw [xae hlow]
  rw [xae hlow] at u
  generalize sW D fl c t (ka,kb)=PA at *
  go_enter func92,ntmps92
  go_upto_region 1 with fail
  (try rw [hV]);(try rw [hQ]);go_wp2_with fail;refine u.o.mono ?_;rintro e a ⟨rfl,m⟩;obtain ⟨_,_,i⟩:=s.o a m;have B:Hid (Bw W a):=zA l.o l.o.size m;obtain ⟨HTH,d,HW4,g0,g1,g2,g3,g4⟩:=vJ (z:=yB) (P:=fun d=>NwV W PA (.returned (.tuple #[.agg (zF yB).toArray,ii 8])) d) i (fun d p=>by rw [q.o];exact sG J H rfl (pE V.heap.size a) B.o p);go_wp2_with (refine zJ rfl 42 _ _ rfl (Q+2) 0 (zF yB).toArray rfl rfl HTH.o Tryz.verSize (wF _) d HW4.o.1 ?_);exact zaB (v:=.tuple #[.agg (zF yB).toArray,ii 8]) (by simp [results,results92,go_sem,zF,yB,Vx.sl,g0,g1,g2,g3,g4]) rfl HW4.o.2
 have HA:Hid (∀o,atV (ofD D (ka,kb)) (min t c)=o->sW D fl c t (ka,kb)=match o with|some v=>(some v,0)|none=>(none,6)):=fun o ho=>by grind [sW]
 rw [xag hlow] at u
 generalize sW D fl c t (ka,kb)=PA at *
 go_enter func92,ntmps92
 go_upto_region 1 with fail
 (try rw [hV]);(try rw [hQ]);go_wp2_with fail;refine u.o.mono ?_;rintro e w ⟨rfl,m⟩;obtain ⟨⟨f0',f1'⟩,⟨a0',a1'⟩,h2'⟩:=s.o w m;have ae:Bw W w:=zA l.o l.o.size m;have ab:Hid (CC 67 #[jp g,.agg #[tq ka,tq kb],iu (min t c)] w fun e y=>NwB w (atV (ofD D (ka,kb)) (min t c)) e y):=(zR4 (K.o.on ae) (ka,kb) ag.o (min t c)).mono fun e y Z=>zCB Z fun v ad=>K.o.may (ka,kb) v (zQA ad)
 have E:=hid m
 generalize atV (ofD D (ka,kb)) (min t c)=o at *
 go_wp2_with fail
 refine ab.o.mono ?_;rintro e A ⟨x,b,rfl,Y,ac,U,O⟩;obtain ⟨X,hX⟩:=eE A.heap.size;obtain ⟨a,hW3⟩:=eE (A.alloc (.cells (zF x).toArray 42));have S:Bw A a:=by rw [<-hW3];exact zaQ
 have r:a.heap[X]? = some (oc (zF x).toArray 42):=by rw [<-hW3,<-hX];exact xab A _
 have L:Bw V a:=zA E.o E.o.size (zA O O.size S);obtain ⟨_,_,i⟩:=s.o a L;have B:Hid (Bw W a):=zA l.o l.o.size L;have af:Hid (zW V.heap.size a x.sl x.o/\yW x.o):=⟨zM (yC (P:=fun _=>False) U.1 (Fr.of_below S) fun _ _ f=>f) E.o.size,U.2⟩;have ah:=hid ac;have R:=hid (HA.o o rfl)
 cases o with
 | none =>
  obtain rfl:b=false:=Y;have q:Hid (PA=(none,6)):=R.o;obtain ⟨xn,xs,xt,xl,xp,xc,xo⟩:=x;simp only [zF,Vx.sl] at *;obtain ⟨HTH,d,HW4,g0,g1,g2,g3,g4⟩:=vJ (z:=yB) (P:=fun d=>NwV W PA (.returned (.tuple #[.agg (zF yB).toArray,ii 6])) d) i (fun d p=>by rw [q.o];exact sG J H rfl (pE V.heap.size a) B.o p);go_upto_region 5 with fail
  (try rw [hX]);(try rw [hW3]);go_wp2_with (refine zJ rfl 42 _ _ rfl (Q+2) 0 (zF yB).toArray rfl rfl HTH.o Tryz.verSize (wF _) d HW4.o.1 ?_);exact zaB (v:=.tuple #[.agg (zF yB).toArray,ii 6]) (by simp [results,results92,go_sem,zF,yB,Vx.sl,g0,g1,g2,g3,g4]) rfl HW4.o.2
 | some v0 =>
 obtain rfl:b=true:=Y;have q:Hid (PA=(some v0,0)):=R.o;obtain ⟨xn,xs,xt,xl,xp,xc,xo⟩:=x;simp only [zF,Vx.sl] at *;have d0:a.cell? (aa X 0)=some (ii xn):=cz r;have d1:a.cell? (aa X 1)=some (iu xs):=cz r;have d2:a.cell? (aa X 2)=some (ii xt):=cz r;have d3:a.cell? (aa X 3)=some (.bool xl):=cz r;have d4:a.cell? (aa X 4)=some (sc xp xo.length xc):=cz r;obtain ⟨HTH,d,HW4,g0,g1,g2,g3,g4⟩:=vJ (z:=⟨xn,xs,xt,xl,xp,xc,xo⟩) (P:=fun d=>NwV W PA (.returned (.tuple #[.agg (zF ⟨xn,xs,xt,xl,xp,xc,xo⟩).toArray,ii 0])) d) i (fun d p=>by rw [q.o];exact sG J H ah.o (af.o) B.o p);go_upto_region 5 with fail
 (try rw [hX]);(try rw [hW3]);go_wp2_with (refine zJ rfl 42 _ _ rfl (Q+2) 0 (zF ⟨xn,xs,xt,xl,xp,xc,xo⟩).toArray rfl rfl HTH.o Tryz.verSize (wF _) d HW4.o.1 ?_);exact zaB (v:=.tuple #[.agg (zF ⟨xn,xs,xt,xl,xp,xc,xo⟩).toArray,ii 0]) (by simp [results,results92,go_sem,zF,yB,Vx.sl,g0,g1,g2,g3,g4]) rfl HW4.o.2
theorem zLw (h:uP n0 g n D W) (hn:n<=1760000000000) (fl A:Int) (k:Ky) (hk:yO k) (i:Int) (hi:i<=9223372036854775807):CC 97 #[.pointer (some ⟨g,0,none⟩),sM fl A,.agg #[.string k.1,.string k.2],.int .i64 i] W fun e K=>NwV W (uJ (ofD D k) A i) e K:=by
 obtain ⟨au,h0,h1,j,hs⟩:=nZ W #[iu fl,iu A] #[tq k.1,tq k.2] #[ii 0,iu 0,ii 0,.bool false,sc none 0 0] 175 36 42;obtain ⟨V,hV⟩:=eE (((W.alloc (.cells #[iu fl,iu A] 175)).alloc (.cells #[tq k.1,tq k.2] 36)).alloc (.cells #[ii 0,iu 0,ii 0,.bool false,sc none 0 0] 42));obtain ⟨Q,hQ⟩:=eE W.heap.size;rw [hV] at au h0 h1 j hs;rw [hQ] at h0 h1 j hs;have HV:=hid au;have HD:=hid h;have bc:=hid hk
 have aq:Hid (∀l,Bw V l->(l.cell? (aa Q 0)=some (iu fl)/\l.cell? (aa Q 1)=some (iu A))/\(l.cell? (aa (Q+1) 0)=some (tq k.1)/\l.cell? (aa (Q+1) 1)=some (tq k.2))/\l.heap[Q+2]? = some (oc #[ii 0,iu 0,ii 0,.bool false,sc none 0 0] 42)):=fun l O=>by
  have e0:=(O.block Q (by omega)).trans h0;have e1:=(O.block (Q+1) (by omega)).trans h1;have e2:=(O.block (Q+2) (by omega)).trans j;exact ⟨⟨by rw [zaC e0];rfl,by rw [zaC e0];rfl⟩,⟨by rw [zaC e1];rfl,by rw [zaC e1];rfl⟩,e2⟩
 obtain ⟨⟨d,f1⟩,⟨a0,Z⟩,_⟩:=aq.o V (zaR _ _);have B:Hid (V.heap.size=Q+3):=hs;have G:Hid (W.heap.size=Q):=hQ;have bi:=hid j;clear h hk h0 h1 au hs;obtain ⟨ka,kb⟩:=k;unfold sM at *;simp only at *
 by_cases hn1:i<1
 ·have q:Hid (uJ (ofD D (ka,kb)) A i=(none,1)):=by show _=_;unfold uJ;rw [xae hn1]
  generalize uJ (ofD D (ka,kb)) A i=PA at *
  clear a0 Z d f1 bi aq;obtain ⟨s,a,c,r,m,p,t,u⟩:=vJ (z:=yB) (P:=fun a=>NwV W PA (.returned (.tuple #[.agg (zF yB).toArray,ii 1])) a) j (fun a w=>by rw [q.o];exact sG B G rfl (pE V.heap.size V) HV.o w);go_enter func97,ntmps97;go_upto_region 1 with fail
  (try rw [hV]);(try rw [hQ]);go_wp2_with (refine zJ rfl 42 _ _ rfl (Q+2) 0 (zF yB).toArray rfl rfl s.o Tryz.verSize (wF _) a c.o.1 ?_);exact zaB (v:=.tuple #[.agg (zF yB).toArray,ii 1]) (by simp [results,results97,go_sem,zF,yB,Vx.sl,r,m,p,t,u]) rfl c.o.2
 have HA:Hid (∀o,qB (ofD D (ka,kb)) i=o->uJ (ofD D (ka,kb)) A i=match o with|some v=>(if v.stamp<=A then (some v,0) else (none,pK (ofD D (ka,kb)) i))|none=>(none,pK (ofD D (ka,kb)) i)):=fun o ho=>by grind [uJ]
 have be:Hid (∀f,(ofD D (ka,kb)).head? = f->pK (ofD D (ka,kb)) i=match f with|some f=>if i<f.num then 8 else 6|none=>6):=fun f hf=>by grind [pK]
 have bg:Hid (∀l,Bw W l->CC 148 #[jp g,.agg #[tq ka,tq kb],ii i] l fun e K=>NwB l (qB (ofD D (ka,kb)) i) e K):=fun l O=>(zOa (HD.o.on O) (ka,kb) bc.o i hi).mono fun e K E=>zCB E fun v ao=>HD.o.may (ka,kb) v (zNV ao).1
 have ba:Hid (∀l,Bw W l->CC 149 #[jp g,.agg #[tq ka,tq kb]] l fun e K=>NwB l (ofD D (ka,kb)).head? e K):=fun l O=>(zQG (HD.o.on O) (by omega) (ka,kb) bc.o).mono fun e K E=>zCB E fun v ao=>HD.o.may (ka,kb) v (List.mem_of_head? ao)
 generalize uJ (ofD D (ka,kb)) A i=PA at *
 generalize qB (ofD D (ka,kb)) i=o at *
 generalize pK (ofD D (ka,kb)) i=PT at *
 generalize (ofD D (ka,kb)).head? = F0 at *
 have ay:=hid (bg.o V HV.o);clear j bg;go_enter func97,ntmps97;go_upto_region 1 with fail
 (try rw [hV]);(try rw [hQ]);go_wp2_with fail;clear a0 Z d f1 hV;refine ay.o.mono ?_;rintro e w2 ⟨x,b,rfl,ak,bf,aw,av⟩;obtain ⟨X,hX⟩:=eE w2.heap.size;obtain ⟨W3,hW3⟩:=eE (w2.alloc (.cells (zF x).toArray 42));have ap:Bw w2 W3:=by rw [<-hW3];exact zaQ
 have R:W3.heap[X]? = some (oc (zF x).toArray 42):=by rw [<-hW3,<-hX];exact xab w2 _
 have al:Bw V W3:=zA av av.size ap;obtain ⟨⟨d,f1⟩,⟨a0,Z⟩,j⟩:=aq.o W3 al;have aj:=hid j;have am:=hid al;have H:Hid (Bw W W3):=zA HV.o HV.o.size al;have bb:Hid (zW V.heap.size W3 x.sl x.o/\yW x.o):=⟨zM (yC (P:=fun _=>False) aw.1 (Fr.of_below ap) fun _ _ f=>f) (zaL _),aw.2⟩;have an:=hid bf;have ah:=hid (HA.o o rfl);have T:=hid (be.o F0 rfl);have ad:=hid (ba.o W3 H.o);clear bf aw av ap al ay HA be ba
 /- the rest where no version is told -/
 have bh:(∃F,o=some F/\F.stamp<=A)∨(PA=(none,PT)/\(b=false∨(b=true/\¬ x.stamp<=A))):=by
  cases o with
  | none=>exact xaf ⟨ah.o,xac ak⟩
  | some F =>
  have bd:x.stamp=F.stamp:=xad Vr.stamp an.o
  by_cases E:F.stamp<=A
  ·grind
  refine xaf ⟨?_,xaf ⟨ak,by omega⟩⟩;have:=ah.o
  grind
 obtain ⟨xn,N,xt,xl,xp,xc,xo⟩:=x;simp only [zF,Vx.sl] at *;have d0:W3.cell? (aa X 0)=some (ii xn):=cz R;have d1:W3.cell? (aa X 1)=some (iu N):=cz R;have d2:W3.cell? (aa X 2)=some (ii xt):=cz R;have d3:W3.cell? (aa X 3)=some (.bool xl):=cz R;have d4:W3.cell? (aa X 4)=some (sc xp xo.length xc):=cz R
 rcases bh with ⟨F,rfl,E⟩|⟨az,bj⟩
 ·obtain rfl:b=true:=ak
  have bd:N<=A:=by
   have e:N=F.stamp:=xad Vr.stamp an.o;rw [e];exact E
  have q:Hid (PA=(some F,0)):=by
   have:=ah.o;simp only at this;rw [xae E] at this;exact this
  clear ah T ad E a0 Z;obtain ⟨s,a,c,r,m,p,t,u⟩:=vJ (z:=⟨xn,N,xt,xl,xp,xc,xo⟩) (P:=fun a=>NwV W PA (.returned (.tuple #[.agg (zF ⟨xn,N,xt,xl,xp,xc,xo⟩).toArray,ii 0])) a) j (fun a w=>by rw [q.o];exact sG B G an.o (bb.o) H.o w);clear R;go_upto_region 4 with fail
  (try rw [hX]);(try rw [hW3]);go_wp2_with (refine zJ rfl 42 _ _ rfl (Q+2) 0 (zF ⟨xn,N,xt,xl,xp,xc,xo⟩).toArray rfl rfl s.o Tryz.verSize (wF _) a c.o.1 ?_);exact zaB (v:=.tuple #[.agg (zF ⟨xn,N,xt,xl,xp,xc,xo⟩).toArray,ii 0]) (by simp [results,results97,go_sem,zF,yB,Vx.sl,r,m,p,t,u]) rfl c.o.2
 have U:=hid az;have ax:=hid j;clear az ah bb an ak j R
 rcases bj with rfl|⟨rfl,bd⟩
 ·go_upto_region 4 with fail
  (try rw [hX]);(try rw [hW3]);clear hX hW3;go_wp2_with fail;clear ax a0 Z d f1 d0 d1 d2 d3 d4;refine ad.o.mono ?_;rintro e C ⟨y,b9,rfl,ac,af,ar,S⟩;obtain ⟨Y,hY⟩:=eE C.heap.size;obtain ⟨W5,hW5⟩:=eE (C.alloc (.cells (zF y).toArray 42));have ae:Bw C W5:=by rw [<-hW5];exact zaQ
  have ab:W5.heap[Y]? = some (oc (zF y).toArray 42):=by rw [<-hW5,<-hY];exact xab C _
  have L:Bw W3 W5:=zA S S.size ae;have j:=(L.block (Q+2) (by have:=am.o.size;have:=B.o;omega)).trans aj.o;have M:Hid (Bw W W5):=zA H.o H.o.size L;have ai:Hid (y.num=(F0.getD zeroV).num):=xad Vr.num af;clear af ar S ae L ad aj am H;obtain ⟨I,ys,yt,yl,yp,yc,yo⟩:=y;simp only [zF,Vx.sl] at *;have t0:W5.cell? (aa Y 0)=some (ii I):=cz ab;clear ab
  cases F0 with
  | none =>
    have q:Hid (PA=(none,6)):=by show _=_;rw [U.o,T.o]
    obtain rfl:b9=false:=ac;have J:I=0:=ai.o;subst J;have ag:¬ (0:Int) > i:=by omega
    obtain ⟨s,a,c,r,m,p,t,u⟩:=vJ (z:=yB) (P:=fun a=>NwV W PA (.returned (.tuple #[.agg (zF yB).toArray,ii 6])) a) j (fun a w=>by rw [q.o];exact sG B G rfl (pE V.heap.size W5) M.o w);go_upto_region 7 with fail
    (try rw [hY]);(try rw [hW5]);go_wp2_with (refine zJ rfl 42 _ _ rfl (Q+2) 0 (zF yB).toArray rfl rfl s.o Tryz.verSize (wF _) a c.o.1 ?_);exact zaB (v:=.tuple #[.agg (zF yB).toArray,ii 6]) (by simp [results,results97,go_sem,zF,yB,Vx.sl,r,m,p,t,u]) rfl c.o.2
  | some d =>
  have J:I=d.num:=ai.o;subst J;obtain rfl:b9=true:=ac
  by_cases hnf:i<d.num
  ·have q:Hid (PA=(none,8)):=by show _=_;rw [U.o,T.o];show ((none:Option Vr),if i<d.num then (8:Int) else 6)=_;rw [xae hnf]
   have ag:d.num > i:=hnf;obtain ⟨s,a,c,r,m,p,t,u⟩:=vJ (z:=yB) (P:=fun a=>NwV W PA (.returned (.tuple #[.agg (zF yB).toArray,ii 8])) a) j (fun a w=>by rw [q.o];exact sG B G rfl (pE V.heap.size W5) M.o w);go_upto_region 7 with fail
   (try rw [hY]);(try rw [hW5]);go_wp2_with (refine zJ rfl 42 _ _ rfl (Q+2) 0 (zF yB).toArray rfl rfl s.o Tryz.verSize (wF _) a c.o.1 ?_);exact zaB (v:=.tuple #[.agg (zF yB).toArray,ii 8]) (by simp [results,results97,go_sem,zF,yB,Vx.sl,r,m,p,t,u]) rfl c.o.2
  have q:Hid (PA=(none,6)):=by show _=_;rw [U.o,T.o];show ((none:Option Vr),if i<d.num then (8:Int) else 6)=_;rw [xag hnf]
  have ag:¬ d.num > i:=hnf;obtain ⟨s,a,c,r,m,p,t,u⟩:=vJ (z:=yB) (P:=fun a=>NwV W PA (.returned (.tuple #[.agg (zF yB).toArray,ii 6])) a) j (fun a w=>by rw [q.o];exact sG B G rfl (pE V.heap.size W5) M.o w);go_upto_region 7 with fail
  (try rw [hY]);(try rw [hW5]);go_wp2_with (refine zJ rfl 42 _ _ rfl (Q+2) 0 (zF yB).toArray rfl rfl s.o Tryz.verSize (wF _) a c.o.1 ?_);exact zaB (v:=.tuple #[.agg (zF yB).toArray,ii 6]) (by simp [results,results97,go_sem,zF,yB,Vx.sl,r,m,p,t,u]) rfl c.o.2
 go_upto_region 4 with fail
 (try rw [hX]);(try rw [hW3]);clear hX hW3;go_wp2_with fail;clear ax a0 Z d f1 d0 d1 d2 d3 d4;refine ad.o.mono ?_;rintro e C ⟨y,b9,rfl,ac,af,ar,S⟩;obtain ⟨Y,hY⟩:=eE C.heap.size;obtain ⟨W5,hW5⟩:=eE (C.alloc (.cells (zF y).toArray 42));have ae:Bw C W5:=by rw [<-hW5];exact zaQ
 have ab:W5.heap[Y]? = some (oc (zF y).toArray 42):=by rw [<-hW5,<-hY];exact xab C _
 have L:Bw W3 W5:=zA S S.size ae;have j:=(L.block (Q+2) (by have:=am.o.size;have:=B.o;omega)).trans aj.o;have M:Hid (Bw W W5):=zA H.o H.o.size L;have ai:Hid (y.num=(F0.getD zeroV).num):=xad Vr.num af;clear af ar S ae L ad aj am H;obtain ⟨I,ys,yt,yl,yp,yc,yo⟩:=y;simp only [zF,Vx.sl] at *;have t0:W5.cell? (aa Y 0)=some (ii I):=cz ab;clear ab
 cases F0 with
 | none =>
   have q:Hid (PA=(none,6)):=by show _=_;rw [U.o,T.o]
   obtain rfl:b9=false:=ac;have J:I=0:=ai.o;subst J;have ag:¬ (0:Int) > i:=by omega
   obtain ⟨s,a,c,r,m,p,t,u⟩:=vJ (z:=yB) (P:=fun a=>NwV W PA (.returned (.tuple #[.agg (zF yB).toArray,ii 6])) a) j (fun a w=>by rw [q.o];exact sG B G rfl (pE V.heap.size W5) M.o w);go_upto_region 7 with fail
   (try rw [hY]);(try rw [hW5]);go_wp2_with (refine zJ rfl 42 _ _ rfl (Q+2) 0 (zF yB).toArray rfl rfl s.o Tryz.verSize (wF _) a c.o.1 ?_);exact zaB (v:=.tuple #[.agg (zF yB).toArray,ii 6]) (by simp [results,results97,go_sem,zF,yB,Vx.sl,r,m,p,t,u]) rfl c.o.2
 | some d =>
 have J:I=d.num:=ai.o;subst J;obtain rfl:b9=true:=ac
 by_cases hnf:i<d.num
 ·have q:Hid (PA=(none,8)):=by show _=_;rw [U.o,T.o];show ((none:Option Vr),if i<d.num then (8:Int) else 6)=_;rw [xae hnf]
  have ag:d.num > i:=hnf;obtain ⟨s,a,c,r,m,p,t,u⟩:=vJ (z:=yB) (P:=fun a=>NwV W PA (.returned (.tuple #[.agg (zF yB).toArray,ii 8])) a) j (fun a w=>by rw [q.o];exact sG B G rfl (pE V.heap.size W5) M.o w);go_upto_region 7 with fail
  (try rw [hY]);(try rw [hW5]);go_wp2_with (refine zJ rfl 42 _ _ rfl (Q+2) 0 (zF yB).toArray rfl rfl s.o Tryz.verSize (wF _) a c.o.1 ?_);exact zaB (v:=.tuple #[.agg (zF yB).toArray,ii 8]) (by simp [results,results97,go_sem,zF,yB,Vx.sl,r,m,p,t,u]) rfl c.o.2
 have q:Hid (PA=(none,6)):=by show _=_;rw [U.o,T.o];show ((none:Option Vr),if i<d.num then (8:Int) else 6)=_;rw [xag hnf]
 have ag:¬ d.num > i:=hnf;obtain ⟨s,a,c,r,m,p,t,u⟩:=vJ (z:=yB) (P:=fun a=>NwV W PA (.returned (.tuple #[.agg (zF yB).toArray,ii 6])) a) j (fun a w=>by rw [q.o];exact sG B G rfl (pE V.heap.size W5) M.o w);go_upto_region 7 with fail
 (try rw [hY]);(try rw [hW5]);go_wp2_with (refine zJ rfl 42 _ _ rfl (Q+2) 0 (zF yB).toArray rfl rfl s.o Tryz.verSize (wF _) a c.o.1 ?_);exact zaB (v:=.tuple #[.agg (zF yB).toArray,ii 6]) (by simp [results,results97,go_sem,zF,yB,Vx.sl,r,m,p,t,u]) rfl c.o.2
end
end
def XsB (n0 nr:Nat) (W:World) (h:Nat) (gs:List Nat) (c:Nat->Nat) (r:Option Vr × Int) (S':Sv) (e:Ending) (w':World):Prop:=∃(x:Vx) (A:Nat) (w1:World),e=.returned (.tuple #[.agg (zF x).toArray,.int .i64 r.2])/\x.ver=r.1.getD zeroV/\zW A w1 x.sl x.o/\yW x.o/\zAS n0 nr W h gs c S' A w1 w'
def AtE (n0 nr:Nat) (W:World) (s:Ps) (c:Nat->Nat) (g:Nat) (wc:World) (S2:Sv) (w':World):Prop:=∃s2 c2,Mid n0 (nr+1) W s c s2 c2 w'/\s2.sv=S2/\(∀k,k<wc.heap.size->c2 k=c k)/\wc.heap.size<=w'.heap.size/\∀k,k<wc.heap.size->k≠g->w'.heap[k]? = wc.heap[k]?
section
variable {n0 nr:Nat} {W wc w4 w5:World} {s:Ps} {c:Nat→Nat} {i:Nat} {y:Px} {S2:Sv} {ka kb:ByteArray}
theorem AtE.start {g:Nat} (x:zS n0 W s c) (f:xF nr s) (b:Below W.heap.size W wc) (a:Below wc.heap.size wc w4) (hs:s.sv=S2):AtE n0 nr W s c g wc S2 w4:=⟨s,c,Mid.start x f (xax nr) (zA b b.size a),hs,fun _ _=>rfl,a.size,fun k d _=>a.block k d⟩
theorem AtE.marked {b:Mx} {d:Nat->Nat} (e:b.mk'=kA y.m.mk' (ka,kb)) (o:Mid n0 (nr+1) W s c { s with xs:=s.xs.set i { y with m:=b } } d w5) (j:∀k,k<w4.heap.size->d k=c k) (hs:w4.heap.size<=w5.heap.size) (f:∀k,k<w4.heap.size->k≠y.g->w5.heap[k]? = w4.heap[k]?) (a:Below wc.heap.size wc w4) (l:yA s.sv i (pU y.tx (ka,kb))=S2):AtE n0 nr W s c y.g wc S2 w5:=⟨_,d,o,by
  rw [<-l,uC];show yA s.sv i ⟨y.snap,y.ended,b.mk',y.L⟩=_;rw [e];rfl,fun k h=>j k (zaT h a.size),zaU a.size hs,fun k h n=>(f k (zaT h a.size) n).trans (a.block k h)⟩
theorem zNr {V X:World} {Q B:Nat} {j:Option Vr} {e:Int} {z:Vx} (x:zS n0 W s c) (H:V.heap.size=Q+2) (D:W.heap.size=Q) (J:y.g<Q) (F:V.heap.size<=X.heap.size) (hq:wc.heap[Q+1]? = some (.cells #[.int .i64 0,.int .u64 0,.int .i64 0,.bool false,.slice none 0 0] 42 (0,0))) (t:AtC X j z B wc) (n:AtE n0 nr W s c y.g wc S2 w5):w5.heap[B]? = some (.cells (zF z).toArray 42 (0,0))/\w5.heap[Q+1]? = some (.cells #[.int .i64 0,.int .u64 0,.int .i64 0,.bool false,.slice none 0 0] 42 (0,0)) /\
  ∀d,Fr (fun b=>b=Q+1) w5 d->XsB n0 (nr+1) W s.h (s.xs.map Px.g) c (j,e) S2 (.returned (.tuple #[.agg (zF z).toArray,.int .i64 e])) d:=by
 obtain ⟨f,E,I,m,o,A,v,G,hj,w,r⟩:=t;obtain ⟨s2,c2,hm,hs,hc,hz,hk⟩:=n;have C:=(gA f).1;refine ⟨(hk B C (by omega)).trans f,(hk (Q+1) (by omega) (by omega)).trans hq,fun d a=>?_⟩;have l:W.heap.size<=Q+1:=by omega
 have q:=hm.box a ((hc (Q+1) (by omega)).trans (x.out _ l)) l;refine ⟨z,A,v,rfl,m,hj,o,q.stepB hs (by omega) (zaU w (zaU hz a.size)) fun k p u=>⟨(hc k (by omega)).trans (x.out k (by omega)),?_⟩⟩;exact (a.block k (by omega) (by omega)).trans ((hk k (by omega) (by omega)).trans (r k p u))
end
theorem zPj {n0 nr:Nat} {W:World} {s:Ps} {c:Nat->Nat} (x:zS n0 W s c) (f:xF nr s) (hn:nr<=1700000000000) {i:Nat} {y:Px} (hy:s.xs[i]? = some y) (t:Int) (k:Ky) (hk:yE k):CC 46 #[.pointer (some ⟨y.g,0,none⟩),.int .u64 t,.agg #[.string k.1,.string k.2]] W fun e a=>XsB n0 (nr+1) W s.h (s.xs.map Px.g) c (atS s.D s.floor y.tx t k).1 (yA s.sv i (atS s.D s.floor y.tx t k).2) e a:=by
 obtain ⟨an,h1,Y,am⟩:=vD W #[tq k.1,tq k.2] #[ii 0,iu 0,ii 0,.bool false,sc none 0 0] 36 42;obtain ⟨V,hV⟩:=eE ((W.alloc (.cells #[tq k.1,tq k.2] 36)).alloc (.cells #[ii 0,iu 0,ii 0,.bool false,sc none 0 0] 42));obtain ⟨Q,hQ⟩:=eE W.heap.size;rw [hV] at an h1 Y am;rw [hQ] at h1 Y am;have O:=hid an;have bh:Hid (V.heap.size=Q+2):=am;have bn:Hid (W.heap.size=Q):=hQ;have r:=hid x;have HF:=hid f;have HY:=hid hy;have HK:=hid hk;have w:=hid hn
 have T:Hid (∀d:World,(∀b,b=Q∨b=Q+1->d.heap[b]? = V.heap[b]?)->(d.cell? (aa Q 0)=some (tq k.1)/\d.cell? (aa Q 1)=some (tq k.2))/\d.heap[Q+1]? = some (oc #[ii 0,iu 0,ii 0,.bool false,sc none 0 0] 42)):=fun d hW=>by
  have n:=(hW Q (xac rfl)).trans h1;have I:=(hW (Q+1) (xaf rfl)).trans Y;exact ⟨⟨by rw [zaC n];rfl,by rw [zaC n];rfl⟩,I⟩
 obtain ⟨⟨a0,a1⟩,_⟩:=T.o V fun _ _=>rfl
 have A:=hid (tW ((x.on an).endis hy) k hk);obtain ⟨j,av⟩:=eE (atS s.D s.floor y.tx t k);rw [av];have ay:=hid av;clear x f hk hn h1 Y an am av;obtain ⟨ka,kb⟩:=k;simp only at *
 have ak:Hid (y.ended=true->vR y.ended (ka,kb)=12/\j=((none,12),y.tx)):=fun h=>by
  refine ⟨by rw [h];rfl,?_⟩;rw [<-ay.o];unfold atS;rw [xae (show y.tx.ended=true from h)]
 have ab:Hid (y.ended=false->xN ka kb=false->vR y.ended (ka,kb)=2/\j=((none,2),y.tx)):=fun h h'=>by
  refine ⟨by grind [vR],?_⟩;rw [<-ay.o];unfold atS;rw [xag (show ¬ y.tx.ended=true by show ¬ y.ended=true;grind),xae h']
 have ag:Hid (y.ended=false->xN ka kb=true->vR y.ended (ka,kb)=0/\j=(sW s.D s.floor y.snap t (ka,kb),if (sW s.D s.floor y.snap t (ka,kb)).2≠8/\y.snap<t then pU y.tx (ka,kb) else y.tx)):=fun h h'=>by
  refine ⟨by grind [vR],?_⟩;rw [<-ay.o];unfold atS;rw [xag (show ¬ y.tx.ended=true by show ¬ y.ended=true;grind),xag (by grind)];rfl
 obtain ⟨EN,ar⟩:=eE y.ended;obtain ⟨KB,hKB⟩:=eE (xN ka kb);have bm:=hid ar;rw [ar] at A ak ab ag;rw [hKB] at ab ag;obtain ⟨g,hg⟩:=eE y.g;rw [hg] at A ⊢;clear ar hKB hy
 have bu:EN=true∨KB=false->CC 46 #[jp g,iu t,.agg #[tq ka,tq kb]] W fun e a=>XsB n0 (nr+1) W s.h (s.xs.map Px.g) c j.1 (yA s.sv i j.2) e a:=fun bd=>by
  obtain ⟨C,ba,br,ah⟩:∃C:Int,vR EN (ka,kb)=C/\C≠0/\j=((none,C),y.tx):=by
   cases hE:EN with
   | true =>
    obtain ⟨n,I⟩:=ak.o hE;rw [hE] at n;exact ⟨12,n,by decide,I⟩
   | false =>
   rcases bd with h|h
   ·grind
   obtain ⟨n,I⟩:=ab.o hE h;rw [hE] at n;exact ⟨2,n,by decide,I⟩
  have J:Hid (j=((none,C),y.tx)):=ah;rw [ba] at A;have ci:(C==0)=false:=by simpa using br
  clear ak ab ag bd ah ba br;go_enter func46,ntmps46;go_upto_region 1 with fail
  (try rw [hV]);(try rw [hQ]);go_wp2_with fail;refine A.o.mono ?_;rintro e1 u ⟨rfl,H⟩;have al:=hid H;obtain ⟨_,hz⟩:=T.o u fun b hb=>H.block b (by grind)
  clear H A T a0 a1
  obtain ⟨ax,l,F,g0,g1,g2,g3,g4⟩:=vJ (z:=⟨0,0,0,false,none,0,[]⟩) (P:=fun l=>XsB n0 (nr+1) W s.h (s.xs.map Px.g) c j.1 (yA s.sv i j.2) (.returned (.tuple #[.agg (zF ⟨0,0,0,false,none,0,[]⟩).toArray,ii C])) l) hz (fun l fz=>by
   rw [J.o];have n:W.heap.size<=Q+1:=by have:=bn.o;omega
   have q:=(Mid.start r.o HF.o (xax nr) (zA O.o O.o.size al.o)).box fz (r.o.out _ n) n;exact ⟨⟨0,0,0,false,none,0,[]⟩,l.heap.size,l,rfl,rfl,mM _ _,pG,q.stepB (xC (qU HY.o)).symm q.fr.size (zaL _) fun k h1 Y=>by omega⟩)
  go_wp2_with (refine zJ rfl 42 _ _ rfl (Q+1) 0 (zF ⟨0,0,0,false,none,0,[]⟩).toArray rfl rfl ax.o Tryz.verSize (wF _) l F.o.1 ?_)
  exact zaB (v:=.tuple #[.agg (zF ⟨0,0,0,false,none,0,[]⟩).toArray,ii C]) (by simp [results,results46,go_sem,zF,Vx.sl,g0,g1,g2,g3,g4]) rfl F.o.2
 cases EN with
 | true=>grind
 | false =>
 cases KB with
 | false=>grind
 | true =>
 obtain ⟨bl,ah⟩:=ag.o rfl rfl;rw [bl] at A;have J:=hid ah;clear bl ah bu ak ab ag
 have cf:Hid (∀u,Bw W u->CC 77 #[jp g,.agg #[tq ka,tq kb]] u fun e a=>∃m' c',e=.returned (.tuple #[])/\m'.mk'=kA y.m.mk' (ka,kb)/\Mid n0 (nr+1) W s c { s with xs:=s.xs.set i { y with m:=m' } } c' a/\(∀k,k<u.heap.size->c' k=c k)/\u.heap.size<=a.heap.size/\∀k,k<u.heap.size->k≠y.g->a.heap[k]? = u.heap[k]?):=fun u hb=>by
  rw [<-hg];exact Mid.key r.o HF.o (by have:=w.o;omega) HY.o bm.o hb (ka,kb) HK.o
 have xa:=r.o.xat HY.o bm.o;obtain ⟨x0,_,x2,_,_,_⟩:=xa.xc
 have bj:Hid (y.g<Q):=by
  show y.g<Q
  rw [<-hQ];exact (gA xa.x).1
 rw [hg] at x0 x2;have bp:=r.o.cells.1;have az:g<W.heap.size:=by rw [hQ,<-hg];exact bj.o
 have bk:s.h<W.heap.size:=r.o.lt;have bg:Hid (∀d,Bw W d->d.cell? (aa g 0)=some (iu y.snap)/\d.cell? (aa g 2)=some (jp s.h)/\d.cell? (aa s.h 0)=some (jp s.hd)):=fun d q=>⟨(q.cell az).trans x0,(q.cell az).trans x2,(q.cell bk).trans bp⟩
 have aq:Hid (∀d,Bw W d->CC 91 #[jp g] d fun e a=>e=.returned (sM s.floor y.snap)/\Bw d a):=fun d q=>by
  obtain ⟨q0,I,_⟩:=bg.o d q;refine qG q0 I fun W2 q'=>?_
  have xw:=r.o.on (zA q q.size q');obtain ⟨B,hT,_⟩:=xw.snp;exact tO xw.stat hT
 have ai:Hid (∀d,Bw W d->CC 92 #[jp s.hd,.agg #[iu s.floor,iu y.snap],iu t,.agg #[tq ka,tq kb]] d fun e a=>NwV d (sW s.D s.floor y.snap t (ka,kb)) e a):=fun d q=>zOq (r.o.on q).dirS s.floor y.snap t (ka,kb) HK.o
 unfold sM at aq;unfold NwV at ai;obtain ⟨PH,be⟩:=eE (sW s.D s.floor y.snap t (ka,kb));rw [be] at ai J;obtain ⟨phv,phc⟩:=PH;simp only at *;clear x0 x2 bp az bk xa be;go_enter func46,ntmps46;go_upto_region 1 with fail
 (try rw [hV]);(try rw [hQ]);go_wp2_with fail;refine A.o.mono ?_;rintro e1 u ⟨rfl,H⟩;have al:=hid H;have bw:=hid (zA O.o O.o.size H);clear H A a0 a1;have bq:=hid (aq.o u bw.o);clear aq;go_wp2_with fail;refine bq.o.mono ?_;rintro e2 w2 ⟨rfl,hb2⟩;obtain ⟨R,hR⟩:=eE w2.heap.size;obtain ⟨X,hX⟩:=eE (w2.alloc (.cells #[iu s.floor,iu y.snap] 175));obtain ⟨hbX,hXo,hXs⟩:=tV w2 #[iu s.floor,iu y.snap] 175;rw [hX] at hbX hXo hXs;rw [hR] at hXo hXs;have ap:Bw V X:=zA al.o al.o.size (zA hb2 hb2.size hbX);have L:=hid ap;have G:=hid (zA O.o O.o.size ap)
 have E:Hid (∀a,Bw X a->(a.cell? (aa Q 0)=some (tq ka)/\a.cell? (aa Q 1)=some (tq kb))/\a.cell? (aa g 2)=some (jp s.h)/\a.cell? (aa s.h 0)=some (jp s.hd)/\a.cell? (aa R 0)=some (iu s.floor)/\a.cell? (aa R 1)=some (iu y.snap)):=fun a q=>by
  have n:=(q.block R (by omega)).trans hXo;obtain ⟨_,r2,r3⟩:=bg.o a (zA G.o G.o.size q);have bz:=zA L.o L.o.size q;exact ⟨(T.o a fun b hb=>bz.block b (by have:=bh.o;omega)).1,r2,r3,by rw [zaC n];rfl,by rw [zaC n];rfl⟩
 have bb:=E.o X (zaR _ _);clear hb2 bq hbX hXo hXs ap;go_upto_region 5 with fail
 (try rw [hX]);(try rw [hR]);clear hX hR
 go_cut [10,11] from 12 (fun bt bs wx=>∃(z:Vx) (B:Nat),bt=jp B/\bs=ii phc/\Hid (AtC X phv z B wx))
 case first =>
  refine tkb (S:=fun a=>(a.cell? (aa Q 0)=some (tq ka)/\a.cell? (aa Q 1)=some (tq kb))/\a.cell? (aa g 2)=some (jp s.h)/\a.cell? (aa s.h 0)=some (jp s.hd)/\a.cell? (aa R 0)=some (iu s.floor)/\a.cell? (aa R 1)=some (iu y.snap)) bb fun hA=>?_;refine tkv4 0 1 2 3 (jp g) (jp g) (.pointer (some (aa g 2))) (jp s.h) hA ?_;simp only [Act.put,sz];refine tkv4 4 5 6 7 (jp s.h) (jp s.h) (jp s.h) (jp s.hd) hA ?_;simp only [Act.put,sz];refine tkv3 8 9 10 (.agg #[iu s.floor,iu y.snap]) (iu t) (.agg #[tq ka,tq kb]) hA ?_;simp only [Act.put,sz];clear hA bb;have ae:Hid (Bw X X.drew):=hid (zG (zaR _ X) 1)
  generalize X.drew=X1 at *
  refine xaA (rs:=[11,15]) (by kernel_rfl) (by simp) ?_;refine xao (zB rfl) (fun K p=>?_) (xao (zB rfl) (fun K p=>?_) xau);rw [xae (by rfl)]
  go_simp
  refine (ai.o X1 (zA G.o G.o.size ae.o)).mono ?_;rintro e3 u3 ⟨z,rfl,af,⟨Z,ad⟩,U⟩;obtain ⟨B,u4,w,HM⟩:=zBQ ae.o af Z ad U;have bo:=hid (zA ae.o ae.o.size U);clear af Z ad U;go_wp2_with fail;refine p.out _ _ (E.o u3 bo.o) (fun hA=>?_);clear p K
  try simp only [Act.put,sz]
  refine tkv3 12 13 14 (.tuple #[.agg (zF z).toArray,ii phc]) (.agg (zF z).toArray) (ii phc) hA ?_;simp only [Act.put,sz];clear hA;refine tkc 15 fun K p=>?_
  go_simp
  go_wp2_with fail
  rw [w.o.1,w.o.2];refine p.out _ _ (E.o u4 HM.o.2.2.1) (fun hA=>?_);clear p K
  try simp only [Act.put,sz]
  clear hA w bo
  rotate_left
  obtain ⟨B,u2,w,aw⟩:=kH ae.o;rw [w.o.1,w.o.2];refine p.out _ _ (E.o u2 aw.o.2.2.1) (fun hA=>?_);clear p K
  try simp only [Act.put,sz]
  clear hA w;refine tkc 11 fun K p=>?_
  go_simp
  refine (ai.o u2 (zA G.o G.o.size aw.o.2.2.1)).mono ?_;rintro e3 u3 ⟨z,rfl,af,⟨Z,ad⟩,U⟩;have HM:=fR aw.o af Z ad U;clear af Z ad U;go_wp2_with fail;refine p.out _ _ (E.o u3 HM.o.2.2.1) (fun hA=>?_);clear p K
  try simp only [Act.put,sz]
  refine tkv3 12 13 14 (.tuple #[.agg (zF z).toArray,ii phc]) (.agg (zF z).toArray) (ii phc) hA ?_;simp only [Act.put,sz];clear hA
  all_goals
   obtain ⟨bi,l,F,HA⟩:=zDU HM.o;refine tkc 16 fun K p=>?_;refine xbH 42 _ _ rfl B 0 (zF z).toArray rfl rfl bi.o Tryz.verSize (wF z) ?_;rw [F.o];refine p.out _ _ (E.o l HA.o.2.2.1) (fun hA=>?_);clear p K
   try simp only [Act.put,sz]
   clear HM bi F;refine tkv 17 (ii phc) hA ?_;simp only [Act.put,sz];refine tkd ?_;clear hA;go_wp2_with fail;go_meet;exact ⟨z,B,rfl,rfl,HA.o⟩
 case rest =>
 obtain ⟨z,B,rfl,rfl,N⟩:=hcut;obtain ⟨⟨b0,b1⟩,s1,s2,v0,v1⟩:=E.o wc N.o.2.2.1;have aj:=hid (zA G.o G.o.size N.o.2.2.1);have ce:Hid (∀a,Bw wc a->(a.cell? (aa Q 0)=some (tq ka)/\a.cell? (aa Q 1)=some (tq kb))):=hid fun a q=>(T.o a fun b hb=>(zA L.o L.o.size (zA N.o.2.2.1 N.o.2.2.1.size q)).block b (by grind)).1
 clear E ai
 rename_i hKK
 refine hKK _ _ (wp_seq_k fun K2 ch=>?_);clear hKK
 go_cut [36] from 37 (fun _ wx=>Hid (AtE n0 nr W s c y.g wc (yA s.sv i j.2) wx))
 case first =>
  by_cases h8:phc=8
  ·have au:Hid (j=((phv,phc),y.tx)):=hid (by rw [J.o,xag fun q=>q.1 h8]);subst h8;go_wp2_with fail;go_meet;exact hid (AtE.start r.o HF.o aj.o (zaR _ _) (by rw [au.o];exact (xC (qU HY.o)).symm))
  have cg:(phc==8)=false:=by simpa using h8
  have ac:=hid (zE5 wc s.floor y.snap t);unfold sM at ac
  by_cases hlt:y.snap<t
  ·rw [xas hlt] at ac;have bv:Hid (j=((phv,phc),pU y.tx (ka,kb))):=hid (by rw [J.o,xae ⟨h8,hlt⟩]);clear hlt;go_wp2_with fail;refine ac.o.mono ?_;rintro e4 w4 ⟨rfl,M⟩;have ao:=hid M;have cb:=hid (cf.o w4 (zA aj.o aj.o.size M));obtain ⟨k0,k1⟩:=ce.o w4 M;clear M b0 b1 v0 v1 s1 s2;go_wp2_with fail;refine cb.o.mono ?_;rintro e5 w5 ⟨m',c4,rfl,hmk,hmid,hc4,hs4,hbk⟩;go_wp2_with fail;go_meet;exact hid (AtE.marked hmk hmid hc4 hs4 hbk ao.o (by rw [bv.o]))
  rw [xar hlt] at ac;have au:Hid (j=((phv,phc),y.tx)):=hid (by rw [J.o,xag fun q=>hlt q.2]);clear hlt;go_wp2_with fail;refine ac.o.mono ?_;rintro e4 w4 ⟨rfl,M⟩;have ao:=hid M;clear M;go_wp2_with fail;go_meet;exact hid (AtE.start r.o HF.o aj.o ao.o (by rw [au.o];exact (xC (qU HY.o)).symm))
 case rest =>
 have bx:Hid (j.1=(phv,phc)):=hid (by rw [J.o]);obtain ⟨bc,hz,bf⟩:=zNr r.o bh.o bn.o bj.o L.o.size (T.o _ fun b hb=>(zA L.o L.o.size N.o.2.2.1).block b (by grind)).2 N.o hcut.out;have ca:=hid (xQ (cs:=zF z) bc).1;have cc:=hid bf;clear bc bf;obtain ⟨ax,l,F,g0,g1,g2,g3,g4⟩:=vJ (z:=z) (P:=fun l=>XsB n0 (nr+1) W s.h (s.xs.map Px.g) c j.1 (yA s.sv i j.2) (.returned (.tuple #[.agg (zF z).toArray,ii phc])) l) hz (fun l fz=>by rw [bx.o];exact cc.o l fz);go_wp2_with (first|(refine yX rfl 42 _ rfl B 0 rfl (zF z) _ ca.o underlying42 rfl Tryz.verSize (.agg (zF z).toArray) rfl ?_)|(refine zJ rfl 42 _ _ rfl (Q+1) 0 (zF z).toArray rfl rfl ax.o Tryz.verSize (wF _) l F.o.1 ?_));exact zaB (v:=.tuple #[.agg (zF z).toArray,ii phc]) (by simp [results,results46,go_sem,zF,Vx.sl,g0,g1,g2,g3,g4]) rfl F.o.2
theorem zHN {n0 H:Nat} {W:World} {s:Ps} {c:Nat->Nat} (x:zS n0 W s c) (f:xF H s) (hn:H<=1700000000000) {i:Nat} {y:Px} (hy:s.xs[i]? = some y) (t:Int) (ca:t<=9223372036854775807) (k:Ky) (hk:yE k):CC 50 #[.pointer (some ⟨y.g,0,none⟩),.agg #[.string k.1,.string k.2],.int .i64 t] W fun e a=>XsB n0 (H+1) W s.h (s.xs.map Px.g) c (vL s.D y.tx k t).1 (yA s.sv i (vL s.D y.tx k t).2) e a:=by
 obtain ⟨am,h1,h2,ak⟩:=vD W #[tq k.1,tq k.2] #[ii 0,iu 0,ii 0,.bool false,sc none 0 0] 36 42;obtain ⟨V,hV⟩:=eE ((W.alloc (.cells #[tq k.1,tq k.2] 36)).alloc (.cells #[ii 0,iu 0,ii 0,.bool false,sc none 0 0] 42));obtain ⟨Q,hQ⟩:=eE W.heap.size;rw [hV] at am h1 h2 ak;rw [hQ] at h1 h2 ak;have HV:=hid am;have af:Hid (V.heap.size=Q+2):=ak;have bk:Hid (W.heap.size=Q):=hQ;have F:=hid x;have HF:=hid f;have HY:=hid hy;have HK:=hid hk;have r:=hid hn
 have ab:Hid (∀j:World,(∀b,b=Q∨b=Q+1->j.heap[b]? = V.heap[b]?)->(j.cell? (aa Q 0)=some (tq k.1)/\j.cell? (aa Q 1)=some (tq k.2))/\j.heap[Q+1]? = some (oc #[ii 0,iu 0,ii 0,.bool false,sc none 0 0] 42)):=fun j hW=>by
  have C:=(hW Q (xac rfl)).trans h1;have U:=(hW (Q+1) (xaf rfl)).trans h2;exact ⟨⟨by rw [zaC C];rfl,by rw [zaC C];rfl⟩,U⟩
 obtain ⟨⟨a0,a1⟩,_⟩:=ab.o V fun _ _=>rfl
 have I:=hid (tW ((x.on am).endis hy) k hk);obtain ⟨n,aq⟩:=eE (vL s.D y.tx k t);rw [aq];have av:=hid aq;clear x f hk hn h1 h2 am ak aq;obtain ⟨ka,kb⟩:=k;simp only at *
 have ai:Hid (y.ended=true->vR y.ended (ka,kb)=12/\n=((none,12),y.tx)):=fun h=>by
  refine ⟨by rw [h];rfl,?_⟩;rw [<-av.o];unfold vL;rw [xae (show y.tx.ended=true from h)]
 have ae:Hid (y.ended=false->xN ka kb=false->vR y.ended (ka,kb)=2/\n=((none,2),y.tx)):=fun h h'=>by
  refine ⟨by rw [h];unfold vR;simp [h'],?_⟩;rw [<-av.o];unfold vL;rw [xag (show ¬ y.tx.ended=true by show ¬ y.ended=true;rw [h];decide),xae h']
 have ag:Hid (y.ended=false->xN ka kb=true->vR y.ended (ka,kb)=0/\n=(uJ (ofD s.D (ka,kb)) y.snap t,if (uJ (ofD s.D (ka,kb)) y.snap t).2=6 then pU y.tx (ka,kb) else y.tx)):=fun h h'=>by
  refine ⟨by rw [h];unfold vR;simp [h'],?_⟩;rw [<-av.o];unfold vL;rw [xag (show ¬ y.tx.ended=true by show ¬ y.ended=true;rw [h];decide),xag (by show ¬ xN ka kb=false;rw [h'];decide)];rfl
 obtain ⟨EN,an⟩:=eE y.ended;obtain ⟨KB,hKB⟩:=eE (xN ka kb);have bj:=hid an;rw [an] at I ai ae ag;rw [hKB] at ae ag;obtain ⟨g,hg⟩:=eE y.g;rw [hg] at I ⊢;clear an hKB hy
 have ao:EN=true∨KB=false->CC 50 #[jp g,.agg #[tq ka,tq kb],ii t] W fun e a=>XsB n0 (H+1) W s.h (s.xs.map Px.g) c n.1 (yA s.sv i n.2) e a:=fun bb=>by
  obtain ⟨L,ax,bn,ah⟩:∃L:Int,vR EN (ka,kb)=L/\L≠0/\n=((none,L),y.tx):=by
   cases hE:EN with
   | true =>
    obtain ⟨C,U⟩:=ai.o hE;rw [hE] at C;exact ⟨12,C,by decide,U⟩
   | false =>
   rcases bb with h|h
   ·rw [hE] at h;cases h
   obtain ⟨C,U⟩:=ae.o hE h;rw [hE] at C;exact ⟨2,C,by decide,U⟩
  have ac:Hid (n=((none,L),y.tx)):=ah;rw [ax] at I;have ci:(L==0)=false:=by simpa using bn
  clear ai ae ag bb ah ax bn;go_enter func50,ntmps50;go_upto_region 1 with fail
  (try rw [hV]);(try rw [hQ]);go_wp2_with fail;refine I.o.mono ?_;rintro e1 E ⟨rfl,R⟩;have w:=hid R;obtain ⟨_,hz⟩:=ab.o E fun b hb=>R.block b (by have:=af.o;omega)
  clear R I ab a0 a1
  obtain ⟨au,p,N,g0,g1,g2,g3,g4⟩:=vJ (z:=⟨0,0,0,false,none,0,[]⟩) (P:=fun p=>XsB n0 (H+1) W s.h (s.xs.map Px.g) c n.1 (yA s.sv i n.2) (.returned (.tuple #[.agg (zF ⟨0,0,0,false,none,0,[]⟩).toArray,ii L])) p) hz (fun p fz=>by
   rw [ac.o];have C:W.heap.size<=Q+1:=by have:=bk.o;omega
   have q:=(Mid.start F.o HF.o (xax H) (zA HV.o HV.o.size w.o)).box fz (F.o.out _ C) C;exact ⟨⟨0,0,0,false,none,0,[]⟩,p.heap.size,p,rfl,rfl,mM _ _,pG,q.stepB (xC (qU HY.o)).symm q.fr.size (zaL _) fun k h1 h2=>by omega⟩)
  go_wp2_with (refine zJ rfl 42 _ _ rfl (Q+1) 0 (zF ⟨0,0,0,false,none,0,[]⟩).toArray rfl rfl au.o Tryz.verSize (wF _) p N.o.1 ?_)
  exact zaB (v:=.tuple #[.agg (zF ⟨0,0,0,false,none,0,[]⟩).toArray,ii L]) (by simp [results,results50,go_sem,zF,Vx.sl,g0,g1,g2,g3,g4]) rfl N.o.2
 cases EN with
 | true=>exact ao (xac rfl)
 | false =>
 cases KB with
 | false=>exact ao (xaf rfl)
 | true =>
 obtain ⟨bi,ah⟩:=ag.o rfl rfl;rw [bi] at I;have ac:=hid ah;clear bi ah ao ai ae ag
 have ce:Hid (∀E,Bw W E->CC 77 #[jp g,.agg #[tq ka,tq kb]] E fun e a=>∃m' c',e=.returned (.tuple #[])/\m'.mk'=kA y.m.mk' (ka,kb)/\Mid n0 (H+1) W s c { s with xs:=s.xs.set i { y with m:=m' } } c' a/\(∀k,k<E.heap.size->c' k=c k)/\E.heap.size<=a.heap.size/\∀k,k<E.heap.size->k≠y.g->a.heap[k]? = E.heap[k]?):=fun E hb=>by
  rw [<-hg];exact Mid.key F.o HF.o (by have:=r.o;omega) HY.o bj.o hb (ka,kb) HK.o
 have xa:=F.o.xat HY.o bj.o;obtain ⟨x0,_,x2,_,_,_⟩:=xa.xc
 have bg:Hid (y.g<Q):=by
  show y.g<Q
  rw [<-hQ];exact (gA xa.x).1
 rw [hg] at x0 x2;have bm:=F.o.cells.1;have aw:g<W.heap.size:=by rw [hQ,<-hg];exact bg.o
 have bh:s.h<W.heap.size:=F.o.lt;have be:Hid (∀j,Bw W j->j.cell? (aa g 0)=some (iu y.snap)/\j.cell? (aa g 2)=some (jp s.h)/\j.cell? (aa s.h 0)=some (jp s.hd)):=fun j q=>⟨(q.cell aw).trans x0,(q.cell aw).trans x2,(q.cell bh).trans bm⟩
 have aj:Hid (∀j,Bw W j->CC 91 #[jp g] j fun e a=>e=.returned (sM s.floor y.snap)/\Bw j a):=fun j q=>by
  obtain ⟨q0,U,_⟩:=be.o j q;refine qG q0 U fun W2 q'=>?_
  have xw:=F.o.on (zA q q.size q');obtain ⟨B,hT,_⟩:=xw.snp;exact tO xw.stat hT
 have ad:Hid (∀j,Bw W j->CC 97 #[jp s.hd,.agg #[iu s.floor,iu y.snap],.agg #[tq ka,tq kb],ii t] j fun e a=>NwV j (uJ (ofD s.D (ka,kb)) y.snap t) e a):=fun j q=>zLw (F.o.on q).dirS (by have:=HF.o.room;have:=r.o;omega) s.floor y.snap (ka,kb) HK.o t ca
 unfold sM at aj;unfold NwV at ad;obtain ⟨PH,bc⟩:=eE (uJ (ofD s.D (ka,kb)) y.snap t);rw [bc] at ad ac;obtain ⟨phv,phc⟩:=PH;simp only at *;clear x0 x2 bm aw bh xa bc;go_enter func50,ntmps50;go_upto_region 1 with fail
 (try rw [hV]);(try rw [hQ]);go_wp2_with fail;refine I.o.mono ?_;rintro e1 E ⟨rfl,R⟩;have w:=hid R;have ar:=hid (zA HV.o HV.o.size R);clear R I a0 a1;obtain ⟨X,hXw⟩:=eE E;rw [hXw] at w ar;have u:=hid ar.o;have Y:=hid w.o;clear w ar
 have A:Hid (∀a,Bw X a->(a.cell? (aa Q 0)=some (tq ka)/\a.cell? (aa Q 1)=some (tq kb))/\a.cell? (aa g 2)=some (jp s.h)/\a.cell? (aa s.h 0)=some (jp s.hd)):=fun a q=>by
  obtain ⟨_,r2,r3⟩:=be.o a (zA u.o u.o.size q);have bx:=zA Y.o Y.o.size q;exact ⟨(ab.o a fun b hb=>bx.block b (by have:=af.o;omega)).1,r2,r3⟩
 have ay:=A.o X (zaR _ _);go_upto_region 4 with fail
 (try rw [hXw]);clear hXw
 go_cut [9,10] from 11 (fun bq bp wx=>∃(z:Vx) (B:Nat),bq=jp B/\bp=ii phc/\Hid (AtC X phv z B wx))
 case first =>
  refine tkb (S:=fun a=>(a.cell? (aa Q 0)=some (tq ka)/\a.cell? (aa Q 1)=some (tq kb))/\a.cell? (aa g 2)=some (jp s.h)/\a.cell? (aa s.h 0)=some (jp s.hd)) ay fun hA=>?_;refine tkv4 0 1 2 3 (jp g) (jp g) (.pointer (some (aa g 2))) (jp s.h) hA ?_;simp only [Act.put,sz];refine tkv4 4 5 6 7 (jp s.h) (jp s.h) (jp s.h) (jp s.hd) hA ?_;simp only [Act.put,sz];refine tkv3 8 10 11 (jp g) (.agg #[tq ka,tq kb]) (ii t) hA ?_;simp only [Act.put,sz];clear hA ay;have al:Hid (Bw X X.drew):=hid (zG (zaR _ X) 1)
  generalize X.drew=X1 at *
  refine xaA (rs:=[9,16]) (by kernel_rfl) (by simp) ?_;refine xao (zB rfl) (fun K d=>?_) (xao (zB rfl) (fun K d=>?_) xau);rw [xae (by rfl)]
  go_simp
  refine (aj.o X1 (zA u.o u.o.size al.o)).mono ?_;rintro e9 u0 ⟨rfl,l⟩;have w:=hid (zA al.o al.o.size l);clear l;refine d.out _ _ (A.o u0 w.o) (fun hA=>?_);clear d K
  try simp only [Act.put,sz]
  clear hA;refine xaA (rs:=[12,16]) (by kernel_rfl) (by simp) ?_;refine xao (zB rfl) (fun K d=>?_) (xao (zB rfl) (fun K d=>?_) xau);rw [xae (by rfl)]
  go_simp
  refine (ad.o u0 (zA u.o u.o.size w.o)).mono ?_;rintro e3 u3 ⟨z,rfl,O,⟨J,M⟩,l⟩;obtain ⟨B,u4,r,T⟩:=zBQ w.o O J M l;have bl:=hid (zA w.o w.o.size l);clear O J M l;go_wp2_with fail;refine d.out _ _ (A.o u3 bl.o) (fun hA=>?_);clear d K
  try simp only [Act.put,sz]
  refine tkv3 13 14 15 (.tuple #[.agg (zF z).toArray,ii phc]) (.agg (zF z).toArray) (ii phc) hA ?_;simp only [Act.put,sz];clear hA;refine tkc 16 fun K d=>?_
  go_simp
  go_wp2_with fail
  rw [r.o.1,r.o.2];refine d.out _ _ (A.o u4 T.o.2.2.1) (fun hA=>?_);clear d K
  try simp only [Act.put,sz]
  clear hA r bl
  rotate_left
  obtain ⟨B,u2,r,G⟩:=kH w.o;rw [r.o.1,r.o.2];refine d.out _ _ (A.o u2 G.o.2.2.1) (fun hA=>?_);clear d K
  try simp only [Act.put,sz]
  clear hA r;refine tkc 12 fun K d=>?_
  go_simp
  refine (ad.o u2 (zA u.o u.o.size G.o.2.2.1)).mono ?_;rintro e3 u3 ⟨z,rfl,O,⟨J,M⟩,l⟩;have T:=fR G.o O J M l;clear O J M l;go_wp2_with fail;refine d.out _ _ (A.o u3 T.o.2.2.1) (fun hA=>?_);clear d K
  try simp only [Act.put,sz]
  refine tkv3 13 14 15 (.tuple #[.agg (zF z).toArray,ii phc]) (.agg (zF z).toArray) (ii phc) hA ?_;simp only [Act.put,sz];clear hA;clear G
  rotate_left
  obtain ⟨B,u2,r,G⟩:=kH al.o;rw [r.o.1,r.o.2];refine d.out _ _ (A.o u2 G.o.2.2.1) (fun hA=>?_);clear d K
  try simp only [Act.put,sz]
  clear hA r;refine tkc 9 fun K d=>?_
  go_simp
  refine (aj.o u2 (zA u.o u.o.size G.o.2.2.1)).mono ?_;rintro e9 u5 ⟨rfl,l⟩;have ap:=zQB G.o l;clear l G;refine d.out _ _ (A.o u5 ap.o.2.2.1) (fun hA=>?_);clear d K
  try simp only [Act.put,sz]
  clear hA;refine tkc 12 fun K d=>?_
  go_simp
  refine (ad.o u5 (zA u.o u.o.size ap.o.2.2.1)).mono ?_;rintro e3 u3 ⟨z,rfl,O,⟨J,M⟩,l⟩;have T:=fR ap.o O J M l;clear O J M l;go_wp2_with fail;refine d.out _ _ (A.o u3 T.o.2.2.1) (fun hA=>?_);clear d K
  try simp only [Act.put,sz]
  refine tkv3 13 14 15 (.tuple #[.agg (zF z).toArray,ii phc]) (.agg (zF z).toArray) (ii phc) hA ?_;simp only [Act.put,sz];clear hA
  all_goals
   obtain ⟨bf,p,N,HA⟩:=zDU T.o;refine tkc 17 fun K d=>?_;refine xbH 42 _ _ rfl B 0 (zF z).toArray rfl rfl bf.o Tryz.verSize (wF z) ?_;rw [N.o];refine d.out _ _ (A.o p HA.o.2.2.1) (fun hA=>?_);clear d K
   try simp only [Act.put,sz]
   clear T bf N;refine tkv 18 (ii phc) hA ?_;simp only [Act.put,sz];refine tkd ?_;clear hA;go_wp2_with fail;go_meet;exact ⟨z,B,rfl,rfl,HA.o⟩
 case rest =>
 obtain ⟨z,B,rfl,rfl,Z⟩:=hcut;obtain ⟨⟨b0,b1⟩,s1,s2⟩:=A.o wc Z.o.2.2.1;have az:=hid (zA u.o u.o.size Z.o.2.2.1);have cj:Hid (∀a,Bw wc a->(a.cell? (aa Q 0)=some (tq ka)/\a.cell? (aa Q 1)=some (tq kb))):=hid fun a q=>(ab.o a fun b hb=>(zA Y.o Y.o.size (zA Z.o.2.2.1 Z.o.2.2.1.size q)).block b (by have:=af.o;omega)).1
 clear A ad aj
 rename_i hKK
 refine hKK _ _ (wp_seq_k fun K2 ch=>?_);clear hKK
 go_cut [34] from 35 (fun _ wx=>Hid (AtE n0 H W s c y.g wc (yA s.sv i n.2) wx))
 case first =>
  by_cases h6:phc=6
  ·have br:Hid (n=((phv,phc),pU y.tx (ka,kb))):=hid (by rw [ac.o,xae h6]);have cb:=hid (ce.o wc az.o);subst h6;go_wp2_with fail;refine cb.o.mono ?_;rintro e5 w5 ⟨m',c4,rfl,bu,bv,bt,cf,bo⟩;go_wp2_with fail;go_meet;exact hid (AtE.marked bu bv bt cf bo (zaR _ _) (by rw [br.o]))
  have cg:(phc==6)=false:=by simpa using h6
  have bs:Hid (n=((phv,phc),y.tx)):=hid (by rw [ac.o,xag h6]);go_wp2_with fail;go_meet;exact hid (AtE.start F.o HF.o az.o (zaR _ _) (by rw [bs.o];exact (xC (qU HY.o)).symm))
 case rest =>
 have bw:Hid (n.1=(phv,phc)):=hid (by rw [ac.o]);obtain ⟨ba,hz,bd⟩:=zNr F.o af.o bk.o bg.o Y.o.size (ab.o _ fun b hb=>(zA Y.o Y.o.size Z.o.2.2.1).block b (by have:=af.o;omega)).2 Z.o hcut.out;have bz:=hid (xQ (cs:=zF z) ba).1;have cc:=hid bd;clear ba bd;obtain ⟨au,p,N,g0,g1,g2,g3,g4⟩:=vJ (z:=z) (P:=fun p=>XsB n0 (H+1) W s.h (s.xs.map Px.g) c n.1 (yA s.sv i n.2) (.returned (.tuple #[.agg (zF z).toArray,ii phc])) p) hz (fun p fz=>by rw [bw.o];exact cc.o p fz);go_wp2_with (first|(refine yX rfl 42 _ rfl B 0 rfl (zF z) _ bz.o underlying42 rfl Tryz.verSize (.agg (zF z).toArray) rfl ?_)|(refine zJ rfl 42 _ _ rfl (Q+1) 0 (zF z).toArray rfl rfl au.o Tryz.verSize (wF _) p N.o.1 ?_));exact zaB (v:=.tuple #[.agg (zF z).toArray,ii phc]) (by simp [results,results50,go_sem,zF,Vx.sl,g0,g1,g2,g3,g4]) rfl N.o.2
section
variable {nr' A i g:Nat} {gs':List Nat} {S':Sv} {c:Nat→Nat} {w1:World} {t:Tx}
section
variable {W0:World} {Z:List (Nat × Obj)} {nr h:Nat} {gs:List Nat} {S:Sv} {w w':World}
def wY (W0:World) (Z:List (Nat × Obj)) (nr h:Nat) (gs:List Nat) (S:Sv) (A:Nat) (w1 w:World):Prop:=∀Zt:List (Nat × Obj),(∀p∈Zt,A<=p.1/\w1.heap[p.1]? = some p.2)->Sto W0 (Zt++Z) nr h gs S w
theorem zAS.sto (r:zAS W0.heap.size nr' w h gs' c S' A w1 w') (o:∀k,k<W0.heap.size->c k=0) (s:∀p∈Z,w.heap[p.1]? = some p.2/\c p.1=0) (d:Below W0.heap.size W0 w):wY W0 Z nr' h gs' S' A w1 w':=fun y x=>by
 obtain ⟨u,q,f,n,z,v,B⟩:=r;refine ⟨⟨u,q,fun k b=>(n k (zaT b d.size)).trans (o k b),fun p a=>?_⟩,d.trans (f.below d.size fun k b=>?_)⟩
 ·rcases List.mem_append.1 a with a|a
  ·grind
  obtain ⟨j,l⟩:=s p a;have m:=(Array.getElem?_eq_some_iff.1 j).1;exact ⟨(f.block p.1 m fun e=>e l).trans j,(n _ m).trans l⟩
 grind
theorem zAS.base {n0:Nat} {W:World} (a:zAS n0 nr' W h gs' c S' A w1 w'):W.heap.size<=A:=by
 obtain ⟨_,_,_,_,q,_⟩:=a;exact q
theorem wY.sto (x:wY W0 Z nr h gs S A w1 w):Sto W0 Z nr h gs S w:=x [] fun p a=>by cases a
theorem zPJ (x:Sto W0 Z nr h gs S w) (l:nr<=1700000000000) {i g:Nat} {t:Tx} (n:gs[i]? = some g) (m:S.txs[i]? = some t) (k:Ky) (b:yE k) (a:Int):CC 48 #[.pointer (some ⟨g,0,none⟩),.agg #[.string k.1,.string k.2],.int .u64 a] w fun e w'=>∃w0 w1,zGb w0 (nL S.D S.floor t k a).1 e w1/\w.heap.size<=w0.heap.size/\wY W0 Z (nr+1) h gs (yA S i (nL S.D S.floor t k a).2) w0.heap.size w1 w':=by
 obtain ⟨⟨c,⟨s,p,f,rfl,rfl,rfl⟩,d,j⟩,o⟩:=x;obtain ⟨y,hy,rfl,rfl⟩:=qS n m;refine (zKe p f l hy k b a).mono ?_;rintro e w' ⟨w0,w1,q,st⟩;exact ⟨w0,w1,q,st.base,st.sto d j o⟩
theorem zLn (x:Sto W0 Z nr h gs S w) (j:nr<=1700000000000) {i g:Nat} {t:Tx} (l:gs[i]? = some g) (k:S.txs[i]? = some t) (typ:ByteArray) (a:Int):CC 49 #[.pointer (some ⟨g,0,none⟩),.string typ,.int .u64 a] w fun e w'=>∃w0 w1,NwF w0 (sS S.D S.floor t typ a).1 e w1/\w.heap.size<=w0.heap.size/\wY W0 Z (nr+1) h gs (yA S i (sS S.D S.floor t typ a).2) w0.heap.size w1 w':=by
 obtain ⟨⟨c,⟨s,p,f,rfl,rfl,rfl⟩,b,d⟩,m⟩:=x;obtain ⟨y,hy,rfl,rfl⟩:=qS l k;refine (zJH p f j hy typ a).mono ?_;rintro e w' ⟨w0,w1,q,st⟩;exact ⟨w0,w1,q,st.base,st.sto b d m⟩
theorem zOg (x:Sto W0 Z nr h gs S w) (u:nr<=1700000000000) {i g:Nat} {t:Tx} (o:gs[i]? = some g) (z:S.txs[i]? = some t) (b:Int) (typ:ByteArray) (d:Option Addr) (j:Nat) (a:List Tm) (k:KM.Is w (.slice d a.length j) a) (m:qZ a):CC 47 #[.pointer (some ⟨g,0,none⟩),.int .u64 b,.string typ,.slice d a.length j] w fun e w'=>∃w0 w1,NwF w0 (mB S.D S.floor t b typ a).1 e w1/\w.heap.size<=w0.heap.size/\wY W0 Z (nr+1) h gs (yA S i (mB S.D S.floor t b typ a).2) w0.heap.size w1 w':=by
 obtain ⟨⟨c,⟨s,p,f,rfl,rfl,rfl⟩,l,n⟩,r⟩:=x;obtain ⟨y,hy,rfl,rfl⟩:=qS o z;refine (zLZ p f u hy b typ d j a k m (funext fun v=>zDY a v)).mono ?_;rintro e w' ⟨w0,w1,q,st⟩;exact ⟨w0,w1,q,st.base,st.sto l n r⟩
theorem zNQ (x:Sto W0 Z nr h gs S w) {i g:Nat} {t:Tx} (j:gs[i]? = some g) (d:S.txs[i]? = some t):CC 45 #[.pointer (some ⟨g,0,none⟩)] w fun e w'=>e=.returned (.tuple #[])/\Sto W0 Z (nr+1) h gs (yA S i (nS t)) w':=by
 obtain ⟨⟨c,⟨s,p,f,rfl,rfl,rfl⟩,a,b⟩,k⟩:=x;obtain ⟨y,hy,rfl,rfl⟩:=qS j d;exact (zLQ p f hy).mono fun e w' q=>⟨q.1,q.2.sto a b k⟩
theorem zGz (x:Sto W0 Z nr h gs S w) (d:nr<=2000000000000) {i g:Nat} {t:Tx} (k:gs[i]? = some g) (j:S.txs[i]? = some t):CC 19 #[.pointer (some ⟨g,0,none⟩)] w fun e w'=>e=.returned (.bool (sE S i t).1)/\Sto W0 Z nr h gs (sE S i t).2 w':=by
 obtain ⟨⟨c,⟨s,p,f,rfl,rfl,rfl⟩,a,b⟩,l⟩:=x;obtain ⟨y,hy,rfl,rfl⟩:=qS k j;exact (zL8 p f d hy).mono fun e w' q=>⟨q.1,q.2.sto a b l⟩
theorem zOI (x:Sto W0 Z nr h gs S w) (n:Int) (d:n<=9223372036854775807):CC 38 #[.pointer (some ⟨h,0,none⟩),.int .i64 n] w fun e w'=>e=.returned (.int .i64 (wE S.tick n))/\Sto W0 Z nr h gs { S with tick:=wE S.tick n } w':=by
 obtain ⟨⟨c,⟨s,p,f,rfl,rfl,rfl⟩,a,b⟩,j⟩:=x;exact (zKu p f n d).mono fun e w' q=>⟨q.1,q.2.sto a b j⟩
theorem zC1 (x:Sto W0 Z nr h gs S w) {i g:Nat} {t:Tx} (b:gs[i]? = some g) (a:S.txs[i]? = some t):CC 12 #[.pointer (some ⟨g,0,none⟩)] w fun e w'=>e=.returned (.int .u64 t.snap)/\w'=w:=by
 obtain ⟨⟨c,⟨s,p,f,rfl,rfl,rfl⟩,d,j⟩,k⟩:=x;obtain ⟨y,hy,rfl,rfl⟩:=qS b a;obtain ⟨hi,rfl⟩:=gL hy
 cases he:(s.xs[i]).ended with
 | true=>exact zET (p.xends i hi he).1
 | false=>exact zET (p.xcells i hi he).1
end
end
section
variable {i g nr' N:Nat} {t:Tx} {gs':List Nat} {S':Sv} {c:Nat→Nat}
section
variable {W0:World} {Z:List (Nat × Obj)} {nr h:Nat} {gs:List Nat} {S:Sv} {w w':World}
theorem zO2 (x:Sto W0 Z nr h gs S w) (n:nr<=90000000) {i g:Nat} {t:Tx} (r:gs[i]? = some g) (o:S.txs[i]? = some t) (typ:ByteArray) (b:Option Addr) (d:Nat) (a:List Tm) (j:KM.Is w (.slice b a.length d) a) (l:qZ a):CC 42 #[.pointer (some ⟨g,0,none⟩),.string typ,.slice b a.length d] w fun e w'=>∃w0 w1,NwF w0 (qA S.D t typ a).1 e w1/\w.heap.size<=w0.heap.size/\wY W0 Z (nr+1) h gs (yA S i (qA S.D t typ a).2) w0.heap.size w1 w':=by
 obtain ⟨⟨c,⟨s,p,f,rfl,rfl,rfl⟩,k,m⟩,u⟩:=x;obtain ⟨y,hy,rfl,rfl⟩:=qS r o;refine (zL6 p f n hy typ b d a j l).mono ?_;rintro e w' ⟨w0,w1,q,st⟩;exact ⟨w0,w1,q,st.base,st.sto k m u⟩
theorem zRd (x:Sto W0 Z nr h gs S w) (l:nr<=1700000000000) {i g:Nat} {t:Tx} (n:gs[i]? = some g) (m:S.txs[i]? = some t) (a:Int) (k:Ky) (b:yE k):CC 46 #[.pointer (some ⟨g,0,none⟩),.int .u64 a,.agg #[.string k.1,.string k.2]] w fun e w'=>∃(v:Vx) (A:Nat) (w1:World),e=.returned (.tuple #[.agg (zF v).toArray,.int .i64 (atS S.D S.floor t a k).1.2])/\v.ver=(atS S.D S.floor t a k).1.1.getD zeroV/\zW A w1 v.sl v.o/\yW v.o/\w.heap.size<=A/\wY W0 Z (nr+1) h gs (yA S i (atS S.D S.floor t a k).2) A w1 w':=by
 obtain ⟨⟨c,⟨s,p,f,rfl,rfl,rfl⟩,d,j⟩,q⟩:=x;obtain ⟨y,hy,rfl,rfl⟩:=qS n m;refine (zPj p f l hy a k b).mono ?_;rintro e w' ⟨v,A,w1,q1,q2,q3,q4,st⟩;exact ⟨v,A,w1,q1,q2,q3,q4,st.base,st.sto d j q⟩
theorem zHs (x:Sto W0 Z nr h gs S w) (l:nr<=1700000000000) {i g:Nat} {t:Tx} (q:gs[i]? = some g) (m:S.txs[i]? = some t) (n:Int) (d:n<=9223372036854775807) (k:Ky) (a:yE k):CC 50 #[.pointer (some ⟨g,0,none⟩),.agg #[.string k.1,.string k.2],.int .i64 n] w fun e w'=>∃(v:Vx) (A:Nat) (w1:World),e=.returned (.tuple #[.agg (zF v).toArray,.int .i64 (vL S.D t k n).1.2])/\v.ver=(vL S.D t k n).1.1.getD zeroV/\zW A w1 v.sl v.o/\yW v.o/\w.heap.size<=A/\wY W0 Z (nr+1) h gs (yA S i (vL S.D t k n).2) A w1 w':=by
 obtain ⟨⟨c,⟨s,p,f,rfl,rfl,rfl⟩,b,j⟩,r⟩:=x;obtain ⟨y,hy,rfl,rfl⟩:=qS q m;refine (zHN p f l hy n d k a).mono ?_;rintro e w' ⟨v,A,w1,q1,q2,q3,q4,st⟩;exact ⟨v,A,w1,q1,q2,q3,q4,st.base,st.sto b j r⟩
theorem cK.base {n0:Nat} {W:World} (a:cK n0 nr' W h gs' c S' N w'):W.heap.size<=N:=by
 obtain ⟨_,_,_,_,q,_⟩:=a;exact q
theorem cK.sto (l:cK W0.heap.size nr' w h gs' c S' N w') (d:∀k,k<W0.heap.size->c k=0) (m:∀p∈Z,w.heap[p.1]? = some p.2/\c p.1=0) (o:Below W0.heap.size W0 w):wY W0 Z nr' h gs' S' N w' w':=by
 obtain ⟨e,q,f,n,a,j⟩:=l;exact zAS.sto ⟨e,q,f,n,a,zaL _,fun k b _=>⟨j k b,rfl⟩⟩ d m o
theorem zMW (x:Sto W0 Z nr h gs S w) (j:nr<=2000000000000) {i g:Nat} {t:Tx} (m:gs[i]? = some g) (l:S.txs[i]? = some t) (k:Ky) (a:yE k):CC 31 #[.pointer (some ⟨g,0,none⟩),.agg #[.string k.1,.string k.2]] w fun e w'=>∃(v:Vx) (A:Nat) (w1:World),e=.returned (.tuple #[.agg (zF v).toArray,.int .i64 (tM S.D t k).1.2])/\v.ver=(tM S.D t k).1.1.getD zeroV/\zW A w1 v.sl v.o/\yW v.o/\w.heap.size<=A/\wY W0 Z (nr+1) h gs (yA S i (tM S.D t k).2) A w1 w':=by
 obtain ⟨⟨c,⟨s,p,f,rfl,rfl,rfl⟩,b,d⟩,n⟩:=x;obtain ⟨y,hy,rfl,rfl⟩:=qS m l;refine (zDz p f j hy k a).mono ?_;rintro e w' ⟨v,N,rfl,hv,ho,hf,st⟩;exact ⟨v,N,w',rfl,hv,ho,hf,st.base,st.sto b d n⟩
theorem zFE (x:Sto W0 Z nr h gs S w) (d:nr<=1300000000000) {i g:Nat} {t:Tx} (k:gs[i]? = some g) (j:S.txs[i]? = some t):CC 16 #[.pointer (some ⟨g,0,none⟩)] w fun e w'=>kI w (zD S.D t) e w'/\wY W0 Z nr h gs S w.heap.size w' w':=by
 obtain ⟨⟨c,⟨s,p,f,rfl,rfl,rfl⟩,a,b⟩,l⟩:=x;obtain ⟨y,hy,rfl,rfl⟩:=qS k j;refine (zA2 p f d hy).mono ?_;rintro e w' ⟨q,st⟩;exact ⟨q,st.sto a b l⟩
theorem zJW (x:Sto W0 Z nr h gs S w) (d:nr<1500000000000) {i g:Nat} {t:Tx} (l:gs[i]? = some g) (j:S.txs[i]? = some t):CC 15 #[.pointer (some ⟨g,0,none⟩)] w fun e w'=>∃(m:Mx) (N:Nat),e=.returned (.agg (xE m).toArray)/\jE N w' m/\m.mk'=sX t/\(∀k∈m.ks,yE k)/\w.heap.size<=N/\wY W0 Z nr h gs S N w' w':=by
 obtain ⟨⟨c,⟨s,p,f,rfl,rfl,rfl⟩,a,b⟩,n⟩:=x;obtain ⟨y,hy,rfl,rfl⟩:=qS l j;refine (zI4 p f d hy).mono ?_;rintro e w' ⟨m,N,q1,q2,q3,q4,st⟩;exact ⟨m,N,q1,q2,q3,q4,st.base,st.sto a b n⟩
end
end
section
variable {B:List (Nat × Obj)} {A Q:Nat} {w1 w V:World} {c:Array Value}
def KIn:zC Int:=⟨3,1,fun x=>[.int .i64 x],fun _=>rfl,by decide,fun x u hu=>by simp at hu;subst hu;rfl⟩
structure Ot where
 v:Vx:=⟨0,0,0,false,none,0,[]⟩
 fp:Option Addr:=none
 fc:Nat:=0
 fs:List Fd:=[]
 wp:Option Addr:=none
 wc:Nat:=0
 vs:List Vx:=[]
 e:Int:=0
 st:Int:=0
 np:Option Addr:=none
 nc:Nat:=0
 ns:List Int:=[]
 ok:Bool:=false
 m:Mx:=⟨none,0,[],none,0,[]⟩
 cp:Option Addr:=none
 cc:Nat:=0
 cs:List Cx:=[]
def zX (o:Ot):List Value:=[.int .i64 o.v.num,.int .u64 o.v.stamp,.int .i64 o.v.tick,.bool o.v.live,.slice o.v.p o.v.o.length o.v.cap,.slice o.fp o.fs.length o.fc,.slice o.wp o.vs.length o.wc,.int .i64 o.e,.int .u64 o.st,.slice o.np o.ns.length o.nc,.bool o.ok,.slice o.m.kp o.m.ks.length o.m.kc,.slice o.m.rp o.m.rs.length o.m.rc,.slice o.cp o.cs.length o.cc]
def Ot.r (o:Ot):R15:={ ver:=o.v.ver,found:=o.fs.map Fd.fnd,vers:=o.vs.map Vx.ver,e:=o.e,stamp:=o.st,nums:=o.ns,ok:=o.ok,marks:=o.m.mk',chg:=o.cs.map Cx.ch }
structure zCx (A:Nat) (w:World) (o:Ot):Prop where
 ver:zW A w o.v.sl o.v.o/\yW o.v.o
 fnd:KFd.Own A w (.slice o.fp o.fs.length o.fc) o.fs/\∀f∈o.fs,zW A w f.v.sl f.v.o/\yW f.v.o
 vrs:KV.Own A w (.slice o.wp o.vs.length o.wc) o.vs/\∀x∈o.vs,zW A w x.sl x.o/\yW x.o
 num:KIn.Own A w (.slice o.np o.ns.length o.nc) o.ns
 mrk:jE A w o.m/\∀k∈o.m.ks,yE k
 chg:KCx.Own A w (.slice o.cp o.cs.length o.cc) o.cs/\∀x∈o.cs,vS A w x
theorem yK (A:Nat) (w:World):zCx A w {}:=⟨⟨mM A w,pG⟩,⟨zC.own_nil _ _ _,fun _ h=>by cases h⟩,⟨zC.own_nil _ _ _,fun _ h=>by cases h⟩,zC.own_nil _ _ _,⟨zBM A w,fun _ h=>by cases h⟩,zC.own_nil _ _ _,fun _ h=>by cases h⟩
def zOt:Array Value:=#[.int .i64 0,.int .u64 0,.int .i64 0,.bool false,.slice none 0 0,.slice none 0 0,.slice none 0 0,.int .i64 0,.int .u64 0,.slice none 0 0,.bool false,.slice none 0 0,.slice none 0 0,.slice none 0 0]
section
variable {W0:World} {Z:List (Nat × Obj)} {nr h:Nat} {gs:List Nat} {S:Sv} {w w':World}
theorem Sto.pins (x:Sto W0 Z nr h gs S w) (d:Below w.heap.size w w') (B:List (Nat × Obj)) (e:∀p∈B,w.heap.size<=p.1/\w'.heap[p.1]? = some p.2):Sto W0 (B++Z) nr h gs S w':=by
 have y:=x.on d;obtain ⟨c,⟨s,p,f,i,k,g⟩,j,b⟩:=x.ex;refine ⟨⟨c,⟨s,p.on d,f,i,k,g⟩,j,fun q a=>?_⟩,y.bel⟩
 rcases List.mem_append.1 a with a|a
 ·exact ⟨(e q a).2,p.out _ (e q a).1⟩
 exact ⟨(d.block _ (gA (b q a).1).1).trans (b q a).1,(b q a).2⟩
theorem Sto.free {Zt:List (Nat × Obj)} (x:Sto W0 (Zt++(B++Z)) nr h gs S w) (f:Fr (fun j=>∃b,(j,b)∈B) w w') (o:∀p∈B,W0.heap.size<=p.1) (n:∀p∈B,∀q∈Zt++Z,q.1≠p.1):Sto W0 (Zt++Z) nr h gs S w':=by
 obtain ⟨c,⟨s,p,g,k,r,i⟩,l,e⟩:=x.ex;refine ⟨⟨c,⟨s,p.fr f fun j _ ⟨b,hb⟩=>(e (j,b) (zaG (xaf (zaG (xac hb))))).2,g,k,r,i⟩,l,fun q a=>?_⟩,x.bel.trans (f.below x.bel.size fun j ⟨b,hb⟩=>o _ hb)⟩
 have hq':q∈Zt++(B++Z):=by
  rcases List.mem_append.1 a with a|a
  ·grind
  grind
 obtain ⟨d,m⟩:=e q hq';exact ⟨(f.block _ (gA d).1 fun ⟨b,hb⟩=>n _ hb q a rfl).trans d,m⟩
theorem wY.free (x:wY W0 (B++Z) nr h gs S A w1 w) (f:Fr (fun j=>∃b,(j,b)∈B) w w') (e:∀p∈B,W0.heap.size<=p.1) (l:∀p∈B,p.1<A) (k:∀p∈B,∀q∈Z,q.1≠p.1):wY W0 Z nr h gs S A w1 w':=fun d a =>
 (x d a).free f e fun p g q i=>by grind
theorem wY.of_sto (x:Sto W0 Z nr h gs S w):wY W0 Z nr h gs S w.heap.size w w:=fun a b=>by
 have:a=[]:=by
  cases a with
  | nil=>rfl
  | cons p a=>grind
 grind
theorem wY.mono {a:Nat} (x:wY W0 Z nr h gs S A w1 w) (d:nr<=a):wY W0 Z a h gs S A w1 w:=fun b e=>(x b e).mono d
theorem Sto.low (x:Sto W0 Z nr h gs S w) {p:Nat × Obj} (b:p∈Z):p.1<w.heap.size:=by
 obtain ⟨c,_,_,a⟩:=x.ex
 grind
end
def zHz (W0:World) (Z:List (Nat × Obj)) (nr h:Nat) (gs:List Nat) (r:R15 × Sv) (w:World) (e:Ending) (w':World):Prop:=∃(ot:Ot) (A:Nat) (w1:World),e=.returned (.agg (zX ot).toArray)/\zCx A w1 ot/\ot.r=r.1/\w.heap.size<=A/\wY W0 Z nr h gs r.2 A w1 w'
theorem zFW (w:World) (a:Array Value) (V:World) (b:((w.alloc (.cells a 40)).alloc (.cells zOt 52)).alloc (.cells zOt 52)=V):Below w.heap.size w V/\V.heap[w.heap.size]? = some (.cells a 40 (0,0))/\V.heap[w.heap.size+1]? = some (.cells zOt 52 (0,0))/\V.heap[w.heap.size+2]? = some (.cells zOt 52 (0,0))/\V.heap.size=w.heap.size+3:=by grind [nZ]
def ofB (Q:Nat) (c:Array Value):List (Nat × Obj):=[(Q,.cells c 40 (0,0)),(Q+1,.cells zOt 52 (0,0)),(Q+2,.cells zOt 52 (0,0))]
theorem zEy {p:Nat × Obj} (h:p∈ofB Q c):Q<=p.1/\p.1<Q+3:=by grind [ofB]
theorem zMh (b:w.heap.size=Q) (f:V.heap[Q]? = some (.cells c 40 (0,0))) (d:V.heap[Q+1]? = some (.cells zOt 52 (0,0))) (e:V.heap[Q+2]? = some (.cells zOt 52 (0,0))):∀p∈ofB Q c,w.heap.size<=p.1/\V.heap[p.1]? = some p.2:=fun p a=>by grind [ofB]
theorem zRP {W0:World} {Z:List (Nat × Obj)} {u nr h:Nat} {gs:List Nat} {m i:Sv} {d g e:World} {ot:Ot} {r:R15} (x:Sto W0 Z u h gs m w) (z:w.heap.size=Q) (hs:V.heap.size=Q+3) (C:V.heap.size<=A) (y:wY W0 (ofB Q c++Z) nr h gs i A w1 d) (t:Fr (fun b=>b=Q+2) d g) (v:Fr (fun b=>b=Q+1) g e) (o:zCx A w1 ot) (n:ot.r=r):zHz W0 Z nr h gs (r,i) w (.returned (.agg (zX ot).toArray)) e:=by
 have f:Fr (fun j=>∃b,(j,b)∈ofB Q c) d e:=((Fr.refl _ d).then t fun k l=>xac ⟨.cells zOt 52 (0,0),by grind [ofB]⟩).then v fun k l=>xac ⟨.cells zOt 52 (0,0),by grind [ofB]⟩
 refine ⟨ot,A,w1,rfl,o,n,by omega,y.free f (fun p a=>?_) (fun p a=>?_) fun p a q s=>?_⟩
 ·have:=(zEy a).1;have:=x.bel.size;omega
 ·have:=(zEy a).2;omega
 have:=(zEy a).1;have:=x.low s;omega
end
section
variable {w:World} {X T:Nat} {S:Sv}
theorem zEs {l b g a d o m n e c9 f i k j:Value} (h:w.heap[X]? = some (.cells #[l,b,g,a,d,o,m,n,e,c9,f,i,k,j] T (0,0))):w.cell? ⟨X,0,none⟩=some l/\w.cell? ⟨X,1,none⟩=some b/\w.cell? ⟨X,2,none⟩=some g/\w.cell? ⟨X,3,none⟩=some a/\w.cell? ⟨X,4,none⟩=some d/\w.cell? ⟨X,5,none⟩=some o/\w.cell? ⟨X,6,none⟩=some m/\w.cell? ⟨X,7,none⟩=some n/\w.cell? ⟨X,8,none⟩=some e/\w.cell? ⟨X,9,none⟩=some c9/\w.cell? ⟨X,10,none⟩=some f/\w.cell? ⟨X,11,none⟩=some i/\w.cell? ⟨X,12,none⟩=some k/\w.cell? ⟨X,13,none⟩=some j:=by
 refine ⟨?_,?_,?_,?_,?_,?_,?_,?_,?_,?_,?_,?_,?_,?_⟩<;>(rw [zaC h];rfl)
structure BxW (X T:Nat) (w0:World) (cs:Array Value) (w:World):Prop where
 box:w.heap[X]? = some (.cells cs T (0,0))
 fr:Fr (fun b=>b=X) w0 w
theorem BxW.set {a:World} {cs:Array Value} (h:BxW X T a cs w) (j:Nat) (v:Value):BxW X T a (cs.setIfInBounds j v) (w.setCell ⟨X,j,none⟩ v):=⟨xaa _ X j _ _ v h.box,h.fr.then (zZ _ X j _) fun _ b=>xac b⟩
section
variable {W0 w1 w5 V:World} {Z:List (Nat × Obj)} {nr h A Q:Nat} {gs:List Nat} {c:Array Value} {ot:Ot} {C R:R15 × Sv}
def zMs (W0:World) (Z:List (Nat × Obj)) (nr h:Nat) (gs:List Nat) (c:Array Value) (Q:Nat) (R:R15 × Sv) (wx:World):Prop:=∃(ot:Ot) (A:Nat) (w1 w5:World),Q+3<=A/\wY W0 (ofB Q c++Z) nr h gs R.2 A w1 w5/\zCx A w1 ot/\ot.r=R.1/\BxW (Q+2) 52 w5 (zX ot).toArray wx
theorem jI (e:Hid (C=R)) (hs:Hid (V.heap.size=Q+3)) (i:V.heap.size<=A) (f:wY W0 (ofB Q c++Z) nr h gs C.2 A w1 w5) (d:zCx A w1 ot) (g:ot.r=C.1):Hid (∀a,BxW (Q+2) 52 w5 (zX ot).toArray a->zMs W0 Z nr h gs c Q R a):=hid fun a b=>by
 have:=hs.out;obtain rfl:=e.out;exact ⟨ot,A,w1,w5,by omega,f,d,g,b⟩
theorem fT (i:Hid (C=R)) (e a:Int) (d:Bool) (f:wY W0 (ofB Q c++Z) nr h gs C.2 w5.heap.size w5 w5) (j:({ e:=e,stamp:=a,ok:=d }:R15)=C.1):Hid (∀b,BxW (Q+2) 52 w5 (zX { e:=e,st:=a,ok:=d }).toArray b->zMs W0 Z nr h gs c Q R b):=hid fun b g=>by
 obtain rfl:=i.out;have:=f.sto.low (p:=(Q+2,.cells zOt 52 (0,0))) (by unfold ofB;simp);exact ⟨{ e:=e,st:=a,ok:=d },_,w5,w5,this,f,{ yK _ _ with },j,g⟩
theorem vM (a:wY W0 (ofB Q c++Z) nr h gs S A w1 w5):Hid (BxW (Q+2) 52 w5 zOt w5)/\(∀j,w5.frozen? ⟨Q+2,j,none⟩=false)/\w5.cell? ⟨Q+2,0,none⟩=some (.int .i64 0)/\w5.cell? ⟨Q+2,1,none⟩=some (.int .u64 0)/\w5.cell? ⟨Q+2,2,none⟩=some (.int .i64 0)/\w5.cell? ⟨Q+2,3,none⟩=some (.bool false)/\w5.cell? ⟨Q+2,4,none⟩=some (.slice none 0 0)/\w5.cell? ⟨Q+2,5,none⟩=some (.slice none 0 0)/\w5.cell? ⟨Q+2,6,none⟩=some (.slice none 0 0)/\w5.cell? ⟨Q+2,7,none⟩=some (.int .i64 0)/\w5.cell? ⟨Q+2,8,none⟩=some (.int .u64 0)/\w5.cell? ⟨Q+2,9,none⟩=some (.slice none 0 0)/\w5.cell? ⟨Q+2,10,none⟩=some (.bool false)/\w5.cell? ⟨Q+2,11,none⟩=some (.slice none 0 0)/\w5.cell? ⟨Q+2,12,none⟩=some (.slice none 0 0)/\w5.cell? ⟨Q+2,13,none⟩=some (.slice none 0 0):=by
 have q:w5.heap[Q+2]? = some (oc zOt 52):=a.sto.got (by unfold ofB;simp);exact ⟨hid ⟨q,Fr.refl _ _⟩,zaF q,zEs q⟩
end
theorem Tryz.outSize:(prog.info? 52).map (·.size)=some 14:=by kernel_rfl
theorem zMl (o:Ot):(zX o).toArray.all (·.oneCell')=true:=xbF fun u a=>by
 simp only [zX,List.mem_cons,List.not_mem_nil,or_false] at a
 rcases a with rfl|rfl|rfl|rfl|rfl|rfl|rfl|rfl|rfl|rfl|rfl|rfl|rfl|rfl<;>rfl
theorem zH3 {W0:World} {Z:List (Nat × Obj)} {nr h:Nat} {gs:List Nat} (x:Sto W0 Z nr h gs S w) (hn:nr<=80000000) {i g:Nat} {t:Tx} (hg:gs[i]? = some g) (ht:S.txs[i]? = some t) (o:Ov) (ho:zDk w o):CC 11 #[.pointer (some ⟨g,0,none⟩),.agg (vN o).toArray] w fun e s=>zHz W0 Z (nr+1) h gs (mH S i t o.op) w e s:=by
 obtain ⟨V,hV⟩:=eE (((w.alloc (.cells (vN o).toArray 40)).alloc (.cells zOt 52)).alloc (.cells zOt 52));obtain ⟨hb0,q0,q1,q2,hsz⟩:=zFW w _ V hV;obtain ⟨Q,hQ⟩:=eE w.heap.size;rw [hQ] at q0 q1 q2 hsz;have ak:=x.pins hb0 (ofB Q (vN o).toArray) (zMh hQ q0 q1 q2);obtain ⟨R,hR⟩:=eE (mH S i t o.op);rw [hR];obtain ⟨c,hc⟩:=eE ((vN o).toArray)
 have ax:Hid (∀s:World,s.heap[Q]? = some (oc c 40)->s.cell? (aa Q 0)=some (ii o.kind)/\s.cell? (aa Q 1)=some (ii o.x)/\s.cell? (aa Q 2)=some (tq o.a)/\s.cell? (aa Q 3)=some (tq o.b)/\s.cell? (aa Q 4)=some (sc o.vp o.vo.length o.vc)/\s.cell? (aa Q 5)=some (sc o.pp o.pt.length o.pc)/\s.cell? (aa Q 6)=some (iu o.t)/\s.cell? (aa Q 7)=some (ii o.n)):=hid fun s q=>by
  rw [<-hc] at q;refine ⟨?_,?_,?_,?_,?_,?_,?_,?_⟩<;>(rw [zaC q];rfl)
 rw [hc] at ak q0;have F:=hid ak;have G:=hid (ho.on hb0);have HX:=hid x;have I:=hid hg;have H:=hid ht;have HQ:=hid hQ;have ad:=hid hsz;have HB:=hid q0;obtain ⟨J,ox,p,y,vp,vc,vo,pp,pc,pt,tt,nn⟩:=o;have E:=hid hR;obtain ⟨a0,a1,a2,a3,a4,a5,a6,a7⟩:=ax.o V q0;simp only [vN,Ov.op] at *;clear x ho ak hb0 q0 q1 q2 hsz hg ht hR hc;unfold zOt at hV;go_enter func11,ntmps11
 go_upto_block 0 with fail
 try rw [hV];try rw [hQ];clear hV hQ
 go_cut [6] from 7 (fun _ wx=>Hid (zMs W0 Z (nr+1) h gs c Q R wx))
 case first =>
  by_cases k2:J=2
  ·subst k2;go_wp2_with fail;refine (zMW F.o (by omega) I.o H.o (p,y) G.o.key).mono ?_;rintro e5 w5 ⟨⟨yn,ys,yt,yl,yp,yc,yo⟩,A,w1,rfl,hv,hj,B,z,d⟩;simp only [zF,Vx.sl] at *
   generalize hcd:(tM S.D t (p,y)).1.2=cd
   obtain ⟨l,r5,N,W,s2,M,s4,s5,Y,P,s8,s9,ab,O,U,ac⟩:=vM d;have j:=jI (ot:={ v:=⟨yn,ys,yt,yl,yp,yc,yo⟩,e:=cd }) E ad z d { yK A w1 with ver:=⟨hj,B⟩ } (by unfold Ot.r;simp only;rw [hv,<-hcd];rfl);clear d hcd;go_wp2_with fail;go_meet;exact hid (j.o _ ((((((l.out.set 0 _).set 1 _).set 2 _).set 3 _).set 4 _).set 7 _))
  by_cases k3:J=3
  ·subst k3;go_wp2_with fail;have L:=hid (zO2 F.o (by omega) I.o H.o p pp pc pt G.o.prd G.o.pfit);unfold NwF at L;refine L.o.mono ?_;rintro e5 w5 ⟨w0,w1,⟨u,fs,rfl,hu,af,ag,_⟩,z,d⟩;obtain ⟨up,uc,rfl⟩:=zC.own_shape hu
   generalize hcd:(qA S.D t p pt).1.2=cd
   obtain ⟨l,r5,N,W,s2,M,s4,s5,Y,P,s8,s9,ab,O,U,ac⟩:=vM d;have j:=jI (ot:={ fp:=up,fc:=uc,fs:=fs,e:=cd }) E ad z d { yK _ w1 with fnd:=⟨hu,fun f B=>⟨(af f B).1,(xJ (af f B).2).1⟩⟩ } (by unfold Ot.r;simp only;rw [ag,<-hcd];rfl);clear d hcd;go_wp2_with fail;go_meet;exact hid (j.o _ ((l.out.set 5 _).set 7 _))
  by_cases k4:J=4
  ·subst k4;go_upto_region 8 with fail
   have ap:Hid (∀w4 u o,Bw V w4->zW (V.drewN 1).heap.size w4 u o->o.map Fx.fld=vo.map Fx.fld->CC 30 #[jp g,.agg #[tq p,tq y],u] w4 fun e s=>e=.returned (ii (wA t (p,y) (vo.map Fx.fld)).1)/\Sto W0 (ofB Q c++Z) (nr+1) h gs (yA S i (wA t (p,y) (vo.map Fx.fld)).2) s):=hid fun w4 u o hb hj he=>zEe (F.o.on hb) (by omega) I.o H.o (p,y) G.o.key u o (vo.map Fx.fld) hj.1.is (zAd he G.o.fit) he
   refine tkb (S:=fun s=>(s.cell? (aa Q 2)=some (tq p)/\s.cell? (aa Q 3)=some (tq y))/\s.cell? (aa Q 4)=some (sc vp vo.length vc)) ⟨⟨a2,a3⟩,a4⟩ fun C=>?_;have ah:Hid (∀s:World,s.heap[Q]? = some (oc c 40)->(s.cell? (aa Q 2)=some (tq p)/\s.cell? (aa Q 3)=some (tq y))/\s.cell? (aa Q 4)=some (sc vp vo.length vc)):=hid fun s q=>by obtain ⟨_,_,b2,b3,b4,_⟩:=ax.o s q;exact ⟨⟨b2,b3⟩,b4⟩
   refine tkv3 0 1 2 (jp g) (.pointer (some (aa Q 2))) (.agg #[tq p,tq y]) C ?_;simp only [Act.put,sz];refine tkv2 3 4 (.pointer (some (aa Q 4))) (sc vp vo.length vc) C ?_;simp only [Act.put,sz];clear C a0 a1 a2 a3 a4 a5 a6 a7;refine tkc 5 fun K hK=>?_
   go_simp
   refine (zJX _ vo (V.drewN 1) (G.o.val.kept (zG (zaR V.heap.size V) 1)) G.o.fit G.o.cpy).mono ?_;rintro e4 w4 ⟨u,oo,rfl,am,ar,au⟩;have al:Bw V w4:=zA (zG (zaR V.heap.size V) 1) (by simp) au;have an:=hid (ap.o w4 u oo al am ar);have aq:=ah.o w4 ((al.block Q (by have:=ad.o;omega)).trans HB.o);obtain ⟨up,uc,rfl⟩:=xA am;clear am ar au al ap;refine hK.out _ _ aq (fun C=>?_);clear hK K
   try simp only [Act.put,sz]
   clear C aq;refine tkc 6 fun K hK=>?_
   go_simp
   refine an.o.mono ?_;rintro e5 w5 ⟨rfl,ae⟩;have ao:=ah.o w5 (ae.got (by unfold ofB;simp));clear an;have d:=wY.of_sto ae;obtain ⟨l,r5,N,W,s2,M,s4,s5,Y,P,s8,s9,ab,O,U,ac⟩:=vM d;have j:=fT E (wA t (p,y) (vo.map Fx.fld)).1 0 false d rfl;clear d;have aw:=ah.o (w5.setCell (aa (Q+2) 7) (ii (wA t (p,y) (vo.map Fx.fld)).1)) ((xaC _ _ Q _ (by simp)).trans (ae.got (by unfold ofB;simp)));clear ae ah;refine hK.out _ _ ao (fun C=>?_);clear hK K
   try simp only [Act.put,sz]
   refine tkv 7 (.pointer (some (aa (Q+2) 7))) C ?_;simp only [Act.put,sz];clear C ao;refine tkc 8 fun K hK=>?_
   go_simp
   go_wp2_with fail
   refine hK.out _ _ aw (fun C=>?_);clear hK K
   try simp only [Act.put,sz]
   refine tkd ?_;clear aw;go_wp2_with fail;go_meet;exact hid (j.o _ (l.out.set 7 _))
  by_cases k5:J=5
  ·subst k5;go_wp2_with fail;refine (zHy F.o (by omega) I.o H.o (p,y) G.o.key).mono ?_;rintro e5 w5 ⟨rfl,ae⟩;have d:=(wY.of_sto ae);obtain ⟨l,r5,N,W,s2,M,s4,s5,Y,P,s8,s9,ab,O,U,ac⟩:=vM d;have j:=fT E (vC S.D t (p,y)).1 0 false d rfl;clear d;go_wp2_with fail;go_meet;exact hid (j.o _ (l.out.set 7 _))
  by_cases k6:J=6
  ·subst k6;go_wp2_with fail;refine (zNQ F.o I.o H.o).mono ?_;rintro e5 w5 ⟨rfl,ae⟩;have d:=(wY.of_sto ae);obtain ⟨l,r5,N,W,s2,M,s4,s5,Y,P,s8,s9,ab,O,U,ac⟩:=vM d;have j:=fT E 0 0 false d rfl;clear d;go_wp2_with fail;go_meet;exact hid (j.o _ l.out)
  by_cases k7:J=7
  ·subst k7;go_wp2_with fail;refine (zRd F.o (by omega) I.o H.o tt (p,y) G.o.key).mono ?_;rintro e5 w5 ⟨⟨yn,ys,yt,yl,yp,yc,yo⟩,A,w1,rfl,hv,hj,B,z,d⟩;simp only [zF,Vx.sl] at *
   generalize hcd:(atS S.D S.floor t tt (p,y)).1.2=cd
   obtain ⟨l,r5,N,W,s2,M,s4,s5,Y,P,s8,s9,ab,O,U,ac⟩:=vM d;have j:=jI (ot:={ v:=⟨yn,ys,yt,yl,yp,yc,yo⟩,e:=cd }) E ad z d { yK A w1 with ver:=⟨hj,B⟩ } (by unfold Ot.r;simp only;rw [hv,<-hcd];rfl);clear d hcd;go_wp2_with fail;go_meet;exact hid (j.o _ ((((((l.out.set 0 _).set 1 _).set 2 _).set 3 _).set 4 _).set 7 _))
  by_cases k8:J=8
  ·subst k8;go_wp2_with fail;have L:=hid (zOg F.o (by omega) I.o H.o tt p pp pc pt G.o.prd G.o.pfit);unfold NwF at L;refine L.o.mono ?_;rintro e5 w5 ⟨w0,w1,⟨u,fs,rfl,hu,af,ag,_⟩,z,d⟩;obtain ⟨up,uc,rfl⟩:=zC.own_shape hu
   generalize hcd:(mB S.D S.floor t tt p pt).1.2=cd
   obtain ⟨l,r5,N,W,s2,M,s4,s5,Y,P,s8,s9,ab,O,U,ac⟩:=vM d;have j:=jI (ot:={ fp:=up,fc:=uc,fs:=fs,e:=cd }) E ad z d { yK _ w1 with fnd:=⟨hu,fun f B=>⟨(af f B).1,(xJ (af f B).2).1⟩⟩ } (by unfold Ot.r;simp only;rw [ag,<-hcd];rfl);clear d hcd;go_wp2_with fail;go_meet;exact hid (j.o _ ((l.out.set 5 _).set 7 _))
  by_cases k9:J=9
  ·subst k9;go_wp2_with fail;have L:=hid (zPJ F.o (by omega) I.o H.o (p,y) G.o.key tt);unfold zGb at L;refine L.o.mono ?_;rintro e5 w5 ⟨w0,w1,⟨u,fs,rfl,hu,af,ag,_⟩,z,d⟩;obtain ⟨up,uc,rfl⟩:=zC.own_shape hu
   generalize hcd:(nL S.D S.floor t (p,y) tt).1.2=cd
   obtain ⟨l,r5,N,W,s2,M,s4,s5,Y,P,s8,s9,ab,O,U,ac⟩:=vM d;have j:=jI (ot:={ wp:=up,wc:=uc,vs:=fs,e:=cd }) E ad z d { yK _ w1 with vrs:=⟨hu,fun f B=>⟨(af f B).1,(xJ (af f B).2).1⟩⟩ } (by unfold Ot.r;simp only;rw [ag,<-hcd];rfl);clear d hcd;go_wp2_with fail;go_meet;exact hid (j.o _ ((l.out.set 6 _).set 7 _))
  by_cases k10:J=10
  ·subst k10;go_wp2_with fail;have L:=hid (zLn F.o (by omega) I.o H.o p tt);unfold NwF at L;refine L.o.mono ?_;rintro e5 w5 ⟨w0,w1,⟨u,fs,rfl,hu,af,ag,_⟩,z,d⟩;obtain ⟨up,uc,rfl⟩:=zC.own_shape hu
   generalize hcd:(sS S.D S.floor t p tt).1.2=cd
   obtain ⟨l,r5,N,W,s2,M,s4,s5,Y,P,s8,s9,ab,O,U,ac⟩:=vM d;have j:=jI (ot:={ fp:=up,fc:=uc,fs:=fs,e:=cd }) E ad z d { yK _ w1 with fnd:=⟨hu,fun f B=>⟨(af f B).1,(xJ (af f B).2).1⟩⟩ } (by unfold Ot.r;simp only;rw [ag,<-hcd];rfl);clear d hcd;go_wp2_with fail;go_meet;exact hid (j.o _ ((l.out.set 5 _).set 7 _))
  by_cases k11:J=11
  ·subst k11;go_wp2_with fail;refine (zHs F.o (by omega) I.o H.o nn G.o.n1 (p,y) G.o.key).mono ?_;rintro e5 w5 ⟨⟨yn,ys,yt,yl,yp,yc,yo⟩,A,w1,rfl,hv,hj,B,z,d⟩;simp only [zF,Vx.sl] at *
   generalize hcd:(vL S.D t (p,y) nn).1.2=cd
   obtain ⟨l,r5,N,W,s2,M,s4,s5,Y,P,s8,s9,ab,O,U,ac⟩:=vM d;have j:=jI (ot:={ v:=⟨yn,ys,yt,yl,yp,yc,yo⟩,e:=cd }) E ad z d { yK A w1 with ver:=⟨hj,B⟩ } (by unfold Ot.r;simp only;rw [hv,<-hcd];rfl);clear d hcd;go_wp2_with fail;go_meet;exact hid (j.o _ ((((((l.out.set 0 _).set 1 _).set 2 _).set 3 _).set 4 _).set 7 _))
  by_cases k12:J=12
  ·subst k12;go_wp2_with fail;refine (zJW F.o (by omega) I.o H.o).mono ?_;rintro e5 w5 ⟨⟨kp,kc,ks,rp,rc,rs⟩,A,rfl,bh,bf,bb,z,aj⟩;simp only [xE,Mx.ksl,Mx.rsl] at *;have d:=aj.mono (xax _);obtain ⟨l,r5,N,W,s2,M,s4,s5,Y,P,s8,s9,ab,O,U,ac⟩:=vM d;have j:=jI (ot:={ m:=⟨kp,kc,ks,rp,rc,rs⟩ }) E ad z d { yK A w5 with mrk:=⟨bh,bb⟩ } (by unfold Ot.r;simp only;rw [bf];rfl);clear d;go_wp2_with fail;go_meet;exact hid (j.o _ ((l.out.set 11 _).set 12 _))
  by_cases k13:J=13
  ·subst k13;go_wp2_with fail;have L:=hid (zFE F.o (by omega) I.o H.o);unfold kI at L;refine L.o.mono ?_;rintro e5 w5 ⟨⟨cp,cc,cs,rfl,bi,bc,_,az,_⟩,aj⟩;have d:=aj.mono (xax _);obtain ⟨l,r5,N,W,s2,M,s4,s5,Y,P,s8,s9,ab,O,U,ac⟩:=vM d;have j:=jI (ot:={ cp:=cp,cc:=cc,cs:=cs }) E ad (zaL _) d { yK _ w5 with chg:=⟨bi,fun x hx=>(bc x hx).1⟩ } (by unfold Ot.r;simp only;rw [az];rfl);clear d;go_wp2_with fail;go_meet;exact hid (j.o _ (l.out.set 13 _))
  by_cases k14:J=14
  ·subst k14;go_wp2_with fail;refine (bF F.o (by omega) I.o H.o).mono ?_;rintro e5 w5 ⟨rfl,ae⟩;have d:=(wY.of_sto ae).mono (xax _);obtain ⟨l,r5,N,W,s2,M,s4,s5,Y,P,s8,s9,ab,O,U,ac⟩:=vM d;have j:=fT E (zU S i t).1.2 (zU S i t).1.1 false d rfl;clear d;go_wp2_with fail;go_meet;exact hid (j.o _ ((l.out.set 8 _).set 7 _))
  by_cases k15:J=15
  ·subst k15;go_wp2_with fail;refine (zGz F.o (by omega) I.o H.o).mono ?_;rintro e5 w5 ⟨rfl,ae⟩;have d:=(wY.of_sto ae).mono (xax _);obtain ⟨l,r5,N,W,s2,M,s4,s5,Y,P,s8,s9,ab,O,U,ac⟩:=vM d;have j:=fT E 0 0 (sE S i t).1 d rfl;clear d;go_wp2_with fail;go_meet;exact hid (j.o _ (l.out.set 10 _))
  have d:=(wY.of_sto F.o).mono (xax _);obtain ⟨l,-⟩:=vM d;have ay:Hid (({},S)=R):=hid (by rw [<-E.o];unfold mH;simp only [*,if_false]);have j:=fT ay 0 0 false d rfl;clear d;go_wp2_with fail;go_meet;exact hid (j.o _ l.out)
 case rest =>
 obtain ⟨ot,A,w1,w5,z,d,av,hr,bx⟩:=hcut.out;have q1:=d.sto.got (k:=Q+1) (b:=.cells zOt 52 (0,0)) (by unfold ofB;simp);have ai:wc.heap[Q+1]? = some (oc zOt 52):=(bx.fr.block _ (gA q1).1 (by omega)).trans q1;obtain ⟨W4,hW4⟩:=eE (wc.setCells (Q+1) 0 (zX ot));have hl:(zX ot).length=zOt.size:=by rfl
 obtain ⟨h4,f4⟩:=tH ai hl hW4;have ba:=hid (zRP HX.o HQ.o ad.o (by have:=ad.o;omega) d bx.fr f4 av hr);obtain ⟨g0,g1,g2,g3,g4,g5,g6,g7,g8,g9,g10,g11,g12,g13⟩:=zEs h4;have bg:=hid (xQ bx.box).1;have be:=hid (xQ (cs:=zOt.toList) ai).2;have bd:=hid hW4;clear hcut z d av hr bx q1 ai hl hW4 h4 f4 a0 a1 a2 a3 a4 a5 a6 a7;go_wp2_with (first|(refine yX rfl 52 _ rfl (Q+2) 0 rfl (zX ot) _ bg.o underlying52 rfl Tryz.outSize (.agg (zX ot).toArray) rfl ?_)|(refine zJ rfl 52 _ _ rfl (Q+1) 0 (zX ot).toArray rfl rfl be.o Tryz.outSize (zMl ot) W4 bd.o ?_));exact zaB (v:=.agg (zX ot).toArray) (by simp [results,results11,go_sem,zX,g0,g1,g2,g3,g4,g5,g6,g7,g8,g9,g10,g11,g12,g13]) rfl ba.o
end
section
variable {k nr' Q:Nat} {v:Value} {gs':List Nat} {S':Sv} {c:Array Value} {w V:World}
section
variable {W0:World} {Z:List (Nat × Obj)} {nr h:Nat} {gs:List Nat} {S:Sv} {w w':World}
theorem Sto.len (x:Sto W0 Z nr h gs S w):gs.length=S.txs.length:=by
 obtain ⟨c,⟨s,_,_,_,rfl,rfl⟩,_⟩:=x.ex;show (s.xs.map Px.g).length=(s.xs.map Px.tx).length
 grind
theorem Sto.okS (x:Sto W0 Z nr h gs S w):OkS S:=by
 obtain ⟨c,⟨s,_,f,_,_,rfl⟩,_⟩:=x.ex;exact f.ok
theorem Sto.turn (x:Sto W0 Z nr h gs S w) {k:Nat} {b d:Obj} (u:(k,b)∈Z) (f:Fr (fun j=>j=k) w w') (D:W0.heap.size<=k) (A:w'.heap[k]? = some d):Sto W0 ((k,d)::Z.filter (fun p=>!decide (p.1=k))) nr h gs S w':=by
 obtain ⟨c,⟨s,p,g,m,n,y⟩,i,a⟩:=x.ex;have C:=(a _ u).2;refine ⟨⟨c,⟨s,p.fr f fun j _ e=>by grind,g,m,n,y⟩,i,fun q z=>?_⟩,x.bel.trans (f.below x.bel.size fun j hj=>by omega)⟩
 rcases List.mem_cons.1 z with rfl|t
 ·grind
 obtain ⟨o,B⟩:=List.mem_filter.1 t;obtain ⟨h1,h2⟩:=a q o;exact ⟨(f.block _ (gA h1).1 (by grind)).trans h1,h2⟩
theorem Sto.grown2 (x:Sto W0 Z nr h gs S w) (d:∀k,v.ownBlock=some k->W0.heap.size<=k/\∃b,(k,b)∈Z) (e:w.grownBy w' v.ownBlock) {g:Nat} (f:v.ownBlock=some g∨g=w.heap.size) (a:g<w'.heap.size):∃b',Sto W0 ((g,b')::Z.filter (fun p=>!decide (v.ownBlock=some p.1))) nr h gs S w':=x.grown d e f a _ fun p i=>by grind
end
structure nE (W0:World) (ZU:List (Nat × Obj)) (nr h R:Nat) (gs:List Nat) (r:Rn) (Z:List (Nat × Obj)) (v:Value) (l:List Nat) (w:World):Prop where
 sto:Sto W0 Z nr h gs r.S w
 sub:∀p∈ZU,p∈Z
 box:(R,.cells #[.pointer (some ⟨h,0,none⟩),v] 34 (0,0))∈Z
 row:yG KTx W0.heap.size W0 v l w
 len:l.length=r.ids.length
 ids:∀j i:Nat,r.ids[j]? = some i->∃g:Nat,l[j]? = some g/\gs[i]? = some g
 own:∀k,v.ownBlock=some k->k≠R/\(∃b,(k,b)∈Z)/\∀p∈ZU,p.1≠k
 off:∀p∈ZU,p.1≠R
 base:W0.heap.size<=R
def zE7 (W0:World) (ZU:List (Nat × Obj)) (nr h R:Nat) (gs:List Nat) (r:Rn) (w:World):Prop:=∃Z v l,nE W0 ZU nr h R gs r Z v l w
def nT (W0:World) (ZU:List (Nat × Obj)) (nr h R:Nat) (gs:List Nat) (rr:R15 × Rn) (w:World) (e:Ending) (w':World):Prop:=∃(ot:Ot) (A:Nat) (w1:World) (gs':List Nat),e=.returned (.agg (zX ot).toArray)/\zCx A w1 ot/\ot.r=rr.1/\w.heap.size<=A/\(∀i g:Nat,gs[i]? = some g->gs'[i]? = some g)/\∀Zt:List (Nat × Obj),(∀p∈Zt,A<=p.1/\w1.heap[p.1]? = some p.2)->zE7 W0 (Zt++ZU) nr h R gs' rr.2 w'
section
variable {W0:World} {ZU Z:List (Nat × Obj)} {nr h R:Nat} {gs:List Nat} {r:Rn} {v:Value} {l:List Nat} {w w':World}
theorem nE.cells (x:nE W0 ZU nr h R gs r Z v l w):w.heap[R]? = some (.cells #[.pointer (some ⟨h,0,none⟩),v] 34 (0,0)):=x.sto.got x.box
theorem nE.lt (x:nE W0 ZU nr h R gs r Z v l w):R<w.heap.size:=(Array.getElem?_eq_some_iff.1 x.cells).1
theorem nE.olt (x:nE W0 ZU nr h R gs r Z v l w) {k:Nat} (d:v.ownBlock=some k):k<w.heap.size:=by
 obtain ⟨b,a⟩:=(x.own k d).2.1;exact x.sto.low a
theorem nE.shape (x:nE W0 ZU nr h R gs r Z v l w):∃p c,v=.slice p l.length c:=by
 obtain ⟨p,c,h⟩:=zC.own_shape x.row.own
 grind
theorem nE.told {Zt:List (Nat × Obj)} (x:nE W0 ZU nr h R gs r Z v l w) (y:Sto W0 (Zt++Z) nr' h gs' S' w') (o:∀i g:Nat,gs[i]? = some g->gs'[i]? = some g) (m:∀p∈Zt,w.heap.size<=p.1):nE W0 (Zt++ZU) nr' h R gs' ⟨S',r.ids⟩ (Zt++Z) v l w':=by
 have y':Sto W0 Z nr' h gs' S' w':=y.sub fun p a=>zaG (xaf a)
 refine ⟨y,fun p a=>?_,zaG (xaf x.box),zFn x.row x.sto y' fun k d=>(x.own k d).2.1,x.len,fun j i hi=>?_,fun k d=>?_,fun p a=>?_,x.base⟩
 ·rcases List.mem_append.1 a with a|a
  ·grind
  exact zaG (xaf (x.sub p a))
 ·obtain ⟨g,f,e⟩:=x.ids j i hi
  grind
 ·obtain ⟨f,⟨b,e⟩,n⟩:=x.own k d;refine ⟨f,⟨b,zaG (xaf e)⟩,fun p a=>?_⟩
  rcases List.mem_append.1 a with a|a
  ·have:=m p a;have:=x.olt d;omega
  grind
 rcases List.mem_append.1 a with a|a
 ·have:=m p a;have:=x.lt;omega
 exact x.off p a
theorem nE.step (x:nE W0 ZU nr h R gs r Z v l w) (y:Sto W0 Z nr' h gs' S' w') (a:∀i g:Nat,gs[i]? = some g->gs'[i]? = some g):nE W0 ZU nr' h R gs' ⟨S',r.ids⟩ Z v l w':=x.told (Zt:=[]) y a fun p b=>by cases b
theorem nE.on (x:nE W0 ZU nr h R gs r Z v l w) (a:Below w.heap.size w w'):nE W0 ZU nr h R gs r Z v l w':=x.step (x.sto.on a) fun _ _ e=>e
end
def doB (Q:Nat) (c:Array Value):List (Nat × Obj):=[(Q,.cells c 40 (0,0)),(Q+1,.cells zOt 52 (0,0))]
theorem zBt {p:Nat × Obj} (h:p∈doB Q c):Q<=p.1/\p.1<Q+2:=by grind [doB]
theorem zNk (e:w.heap.size=Q) (d:V.heap[Q]? = some (.cells c 40 (0,0))) (b:V.heap[Q+1]? = some (.cells zOt 52 (0,0))):∀p∈doB Q c,w.heap.size<=p.1/\V.heap[p.1]? = some p.2:=fun p a=>by grind [doB]
theorem zAp {W0:World} {ZU Z:List (Nat × Obj)} {s nr h R:Nat} {gs:List Nat} {r:Rn} {l:List Nat} {d e m:World} {A:Nat} {ot:Ot} {o:R15} (x:nE W0 ZU s h R gs r Z v l w) (E:w.heap.size=Q) (hs:V.heap.size=Q+2) (F:V.heap.size<=A) (t:wY W0 (doB Q c++Z) nr h gs' S' A m d) (n:∀i g:Nat,gs[i]? = some g->gs'[i]? = some g) (y:Fr (fun b=>b=Q+1) d e) (u:zCx A m ot) (D:ot.r=o):nT W0 ZU nr h R gs (o,⟨S',r.ids⟩) w (.returned (.agg (zX ot).toArray)) e:=by
 have f:Fr (fun j=>∃b,(j,b)∈doB Q c) d e:=(Fr.refl _ d).then y fun k G=>xac ⟨.cells zOt 52 (0,0),by grind [doB]⟩
 have hT':=t.free f (fun p a=>by
  have:=(zBt a).1;have:=x.sto.bel.size;omega) (fun p a=>by
  have:=(zBt a).2;omega) fun p a q C=>by
  have:=(zBt a).1;have:=x.sto.low C;omega
 exact ⟨ot,A,m,gs',rfl,u,D,by omega,n,fun z B=>⟨_,_,_,x.told (hT' z B) n fun p a=>by grind⟩⟩
end
end Go.Proofs.YtkhljboeffhciaaGreat
