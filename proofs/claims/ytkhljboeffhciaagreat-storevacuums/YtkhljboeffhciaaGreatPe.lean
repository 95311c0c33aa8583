/- A part of the proof. -/
import Derived.Test.YtkhljboeffhciaaGreatPd
import Derived.Deep.MidRow
set_option maxHeartbeats 40000000
set_option maxRecDepth 100000
set_option linter.unusedSimpArgs false
open Go.RowKit Go.Proofs.Tryz
namespace Go.Proofs.YtkhljboeffhciaaGreat
section
open Go.RowKit Go.Maps Go.Sort
section
variable {W W' w W0:World} {row:Option Nat} {v:Value} {B Bm m n c Bs:Nat} {P:Nat→Prop} {pre:List Ky} {L:List yI}
attribute [local go_sem] Oper.semAt_some
section
variable {κ ε:Type} {T:dZ κ ε} {F:Fence} {nf:Nat} (w:World) {ops:Array Oper} {rest:List Oper} {o:Oper} {a:Act} {Q:Exit→Act→World→Prop}
theorem zEt (t:o.guard=none) (d:Operand) (u:o.op=Op.range T.M d) (m n:Nat) (f:κ->Option ε) (c:Nat) (l:a.eval d=.map (some m)) (h:uZ T w m n f c)
  (hK:∀b,wD T b m w.heap.size n f c [] c->w.grownBy b none->b.heap.size=w.heap.size+1->wpListIn F nf prog ops Q rest (a.put o.dst (.pointer (some ⟨w.heap.size,0,none⟩))) b):wpListIn F nf prog ops Q (o::rest) a w:=by
 obtain ⟨D,s,r,j,i⟩:=h;refine wpListIn_range_own w t d _ u _ _ T.keyed T.und T.read m n D l s fun b g p q=>hK b ?_ p q
 rw [i] at g;exact ⟨D,_,g,r,j,i,fun k e=>by grind,List.nodup_nil,fun k e=>by simp at e,by simp⟩
theorem zFa (N:o.guard=none) (p:Operand) (R:o.op=Op.next p false) (m r n:Nat) (f:κ->Option ε) (c:Nat) (seen:List κ) (l:Nat) (I:a.eval p=.pointer (some ⟨r,0,none⟩)) (h:wD T w m r n f c seen l)
  (hDone:(∀k,T.fit k->(f k).isSome=true->k∈seen)->wpListIn F nf prog ops Q rest (a.put o.dst (.tuple #[.bool false])) w)
  (hMore:∀(k:κ) (e:ε) (b:World) (g:Nat),T.fit k->k ∉ seen->f k=some e->wD T b m r n f c (seen++[k]) g->g<l->w.grownBy b (some r)->b.heap.size=w.heap.size ->
   (Instr.entry (.pointer (some ⟨r,0,none⟩))).run prog b=.ok (.tuple #[T.key k,T.val e]) b->wpListIn F nf prog ops Q rest (a.put o.dst (.tuple #[.bool true,T.key k,T.val e])) b):wpListIn F nf prog ops Q (o::rest) a w:=by
 obtain ⟨D,left,u,q,E,O,t,h5,Y,Z⟩:=h;refine wpListIn_next_ranges w N p R _ T.keyed T.read T.key T.val T.key_inv T.read_inv m r n D left l I u (fun _ X=>hDone fun k d U=>?_) fun x e V y b g C G j S K z M H J=>?_
 ·grind
 obtain ⟨i,rfl⟩:=T.key_fit _ _ C;have s:(f x).isSome=true/\x ∉ seen:=(t x i).1 G;obtain ⟨e',he'⟩:=Option.isSome_iff_exists.1 s.1
 have A:e=e':=by
  rw [T.read_mk] at j;injection j with j
  have:=S (T.enc T.zero);rw [<-j,q x i,he'] at this;exact (T.enc_inj _ _ this).symm
 subst A;refine hMore x e b g i s.2 he' ⟨D,_,K,q,E,O,fun k d=>?_,?_,fun k d=>?_,by grind⟩ z M H J
 ·show (left (T.lit k) && !(T.lit k).sameKey (T.lit x))=true↔_
  rw [xaP,t k d]
  by_cases e1:k=x
  ·subst e1;rw [WideAt.sameKey_self (T.keyed.key (T.key_is k d))];simp
  rw [sameKey_ne (fun h=>e1 (T.lit_inj _ _ d i h))];simp [e1]
 ·grind
 grind
end
theorem zBz (d:W.grownBy W' row):Fr (fun b=>row=some b) W W':=Fr.of_grown d fun _ h=>h
theorem zEF {b:World} (h:Below w.heap.size w b):w.grownBy b none:=⟨h.os,h.tape,h.output,h.size,fun i hi _=>h.block i hi⟩
theorem zJi {α:Type} {K:zC α} {N:Nat} {d:List α} (h:K.Own N W v d) (f:W.grownBy W' row) (i:∀r,row=some r->∃ob:Obj,W.heap[r]? = some ob/\ob.isCells=false):K.Own N W' v d:=(zBz f).row h fun k b e=>by
  obtain ⟨j,g⟩:=zV h b;obtain ⟨ob,h2,h3⟩:=i k e;rw [g] at h2;injection h2 with h2
  rw [<-h2] at h3
  cases h3
theorem zDu {b:Nat} {cs:Array Value} {t:TypeId} {g:Nat × Nat} (h:W.heap[b]? = some (.cells cs t g)) (j:W.grownBy W' row) (k:∀r,row=some r->∃f:Obj,W.heap[r]? = some f/\f.isCells=false):W'.heap[b]? = some (.cells cs t g):=(j.block b (gA h).1 fun e=>by
  obtain ⟨f,d,i⟩:=k b e.symm;rw [h] at d;injection d with d
  rw [<-d] at i
  cases i).trans h
theorem zE9 (f:Fr P W W') (h:∀b,B<=b->P b->∃i t e,W.heap[b]? = some (.cells i t e)):KeepsFrom B W W':=⟨f.size,fun k o j d g=>by
  by_cases hp:P k
  ·obtain ⟨i,t,e,l⟩:=h k j hp;rw [l] at d;injection d with d
   rw [<-d] at g
   cases g
  exact (f.block k (gA d).1 hp).trans d⟩
theorem Tryz.infoKg:(prog.info? 36).map (fun i=>(i.zero,i.size,i.bytes))=some (some (.agg #[.string ⟨#[]⟩,.string ⟨#[]⟩]),2,32):=by kernel_rfl
def KpG (W W':World):Prop:=W.heap.size<=W'.heap.size/\∀(k:Nat) (o:Obj),W.heap[k]? = some o->o.isWalk=true->W'.heap[k]? = some o
theorem zKl {X Y Z:World} (h:KpG X Y) (k:KpG Y Z):KpG X Z:=⟨zaU h.1 k.1,fun i o hi b=>k.2 i o (h.2 i o hi b) b⟩
theorem zPP (W:World) (l:Nat) (o:Obj) (h:∃r,W.heap[l]? = some (.loop r)):KpG W (W.putObj l o):=by
 obtain ⟨r,f⟩:=h;refine ⟨by simp,fun k g b d=>?_⟩
 by_cases e:k=l
 ·subst e;rw [f] at b;injection b with b
  subst b
  cases d
 grind [World.putObj_heap_other]
theorem zPN (f:Fr P W W') (h:∀b,P b->b<W.heap.size->∃i t e,W.heap[b]? = some (.cells i t e)):KpG W W':=by
 refine ⟨f.size,fun k o d j=>?_⟩;have g:=(gA d).1
 by_cases hp:P k
 ·obtain ⟨i,t,e,l⟩:=h k hp g;rw [l] at d;injection d with d
  subst d
  cases j
 exact (f.block k g hp).trans d
def zGN (k:Ky):Array Value:=#[.agg #[.string k.1,.string k.2]]
theorem zLH (nn:Nat) (ar:1<=nn) (l Bm m n c:Nat) (f:Ky->Option We) (J E:List Ky->World->Prop)
  (W:World) (hJ:AbidesFrom W.heap.size J) (hY:∀pre x W1,J pre W1->(yO x/\pre.length<c)->YieldAt Fence.wide (nn-1) prog l (zGN x) W1 fun e W' =>
   (e=.returned (.bool true)/\J (pre++[x]) W'/\KpG W1 W')∨(e=.returned (.bool false)/\E (pre++[x]) W'))
  (hm:W.cell? ⟨Bm,0,none⟩=some (.map (some m))) (hM:uZ MW W m n f c) (h0:J [] W):CallsIn Fence.wide nn prog 156 #[.func (.yield l) #[] #[],.pointer (some ⟨Bm,0,none⟩)] W fun e W'=>(∃v,e=.returned v) /\
   ((∃xs:List Ky,(xs.Nodup/\∀k,k∈xs↔yO k/\(f k).isSome=true)/\J xs W')∨(∃pre:List Ky,True/\E pre W')):=by
 have HM:=hid hM;obtain ⟨N,M⟩:=eE W.heap.size;refine callsIn_of_wp func156 rfl trivial ?_ rfl;simp only [ntmps156,xbk,xa3,xbi,Nat.reduceAdd,Nat.reduceSub,xb3,xb2,List.push_toArray,xb6,xbe,List.cons_append]
 gi_wp2_with (first|(gi_at_range;refine zEt (T:=MW) _ rfl _ rfl m n f c rfl HM.o ?_;intro z al ag aq)|gi_in)
 go_frame
 have D:Hid (wD MW z m N n f c [] c/\J [] z):=⟨by grind,hJ [] W z none h0 ag (fun r e=>by cases e)⟩;rw [M]
 gi_loopw [3] (fun _ wr=>∃(d:List Ky) (u:Nat),wD MW wr m N n f c d u/\J d wr) (fun _ wr=>wr.rangeLeft m N)
 case atStart=>exact ⟨[],c,D.out.1,D.out.2⟩
 obtain ⟨d,u,p,H⟩:=hrel;have K:=p.nodup
 gi_wp2_with (first|(gi_at_next;refine zFa (T:=MW) _ rfl _ rfl m N n f c d u rfl p ?_ ?_)|gi_in)
 ·intro ad
  gi_wp2
  go_end0
  exact ⟨⟨_,rfl⟩,.inl ⟨d,⟨K.1,fun k=>⟨fun h=>K.2.1 k h,fun h=>ad k.1 k.2 h.1 h.2⟩⟩,H⟩⟩
 intro q i b g ae V an aj s X Y am af;obtain ⟨S,sn,sc,j⟩:=p.iter;have U:J d g:=hJ d wr g (some N) H Y (fun r e=>by cases e;exact ⟨by omega,_,j,rfl⟩);have A:Bw g (g.alloc (.cells #[tq q,tq i] 36)):=zaQ;have t:J d (g.alloc (.cells #[tq q,tq i] 36)):=hJ d g _ none U (zEF A) fun r e=>by cases e
 have ac:=s.on (A.block _ s.map.lt) (A.block _ s.lt);obtain ⟨fn,ap,ai,ao,O,hR⟩:=hY d (q,i) _ t ⟨V,by omega⟩;simp only [zGN] at O;have y:=hid ac;have ab:=p.left_eq;have ah:=hid ab;simp only [MW,nH,We.val,We.sl] at af ⊢
 gi_wp2
 refine hR.mono ?_;rintro e W3 (⟨rfl,t,I⟩|⟨rfl,ak⟩)
 ·obtain ⟨es,cl,C⟩:=y.o.map.obj;obtain ⟨S,sn,sc,j⟩:=y.o.iter;have Z:=y.o.on ((I.2 m _ C rfl).trans C.symm) ((I.2 N _ j rfl).trans j.symm);have G:=hid Z;have R:=hid t
  gi_wp2
  go_roundw
  case rel=>exact ⟨d++[(q,i)],ae,G.o,R.o⟩
  case measure=>rw [G.o.left_eq,ah.o];exact X
 gi_wp2
 refine zaB (xbV rfl _ _ _) rfl ?_
 grind
theorem zMI (nn:Nat) (h:1<=nn) {w:World} {Bm m n c:Nat} {f:Ky->Option We} (e:w.cell? ⟨Bm,0,none⟩=some (.map (some m))) (d:uZ MW w m n f c):zQV Fence.wide nn prog 156 #[.pointer (some ⟨Bm,0,none⟩)] zGN (fun pre x _=>yO x/\pre.length<c) KpG (fun b=>b.Nodup/\∀k,k∈b↔yO k/\(f k).isSome=true) (fun _=>True) w:=fun l J r W g j q i=>zLH nn h l Bm m n c f J r W j q ((g.cell (p:=(aa Bm 0)) (zI e)).trans e) (d.on (g.block m d.lt)) i
def zIi (W0:World) (Bm:Nat) (f:Ky->Option We) (c:Nat):Prop:=∀w,Below W0.heap.size W0 w->zQV Fence.wide 2 prog 156 #[.pointer (some ⟨Bm,0,none⟩)] zGN (fun pre x _=>yO x/\pre.length<c) KpG (fun xs=>xs.Nodup/\∀k,k∈xs↔yO k/\(f k).isSome=true) (fun _=>True) w
theorem zIi.of {f:Ky->Option We} (e:W0.cell? ⟨Bm,0,none⟩=some (.map (some m))) (d:uZ MW W0 m n f c):zIi W0 Bm f c:=fun _ b =>
 zMI (nn:=2) (by decide) ((b.cell (p:=(aa Bm 0)) (zI e)).trans e) (d.on (b.block m d.lt))
structure KsG (Bs:Nat) (w:World) (pre:List Ky) (v:Value) (W:World):Prop where
 box:W.heap[Bs]? = some (.cells #[v] 46 (0,0))
 own:KK.Own w.heap.size W v pre
 fr:Fr (fun b=>b=Bs) w W
 lt:Bs<w.heap.size
theorem KsG.nc (h:KsG Bs w pre v W) (d:W.grownBy W' row) (f:∀r,row=some r->w.heap.size<=r/\∃ob:Obj,W.heap[r]? = some ob/\ob.isCells=false):KsG Bs w pre v W':=⟨zDu h.box d fun r e=>(f r e).2,zJi h.own d fun r e=>(f r e).2,Fr.then h.fr (zBz d) fun b g=>xaf (f b g).1,h.lt⟩
theorem KsG.own_from (Bs:Nat) (w:World):OwnFrom w.heap.size (fun pre W=>∃v,KsG Bs w pre v W):=by
 rintro s W W' row ⟨v,h⟩ d b;exact ⟨v,h.nc d b⟩
theorem zNL {g:Value} {r f:World} {x:Ky} (h:KsG Bs w pre v W) (u:Below W.heap.size W r) (A:r.grownBy f v.ownBlock) (l:KK.Own w.heap.size f g (pre++[x])):KeepsFrom w.heap.size W (f.setCell ⟨Bs,0,none⟩ g)/\KpG W (f.setCell ⟨Bs,0,none⟩ g)/\KsG Bs w (pre++[x]) g (f.setCell ⟨Bs,0,none⟩ g):=by
 have y:=h.lt;have E:=h.fr.size;have D:∀b,v.ownBlock=some b->w.z<=b/\∃cs,W.heap[b]? = some (oc cs 36):=fun b d=>⟨(zaW h.own b d).1,zV h.own d⟩
 have p:Fr (fun b=>b=Bs) f (f.setCell (aa Bs 0) g):=Fr.of_grown (xS f Bs 0 g) fun k j=>by grind
 have q:Fr (fun b=>v.ownBlock=some b) W f:=Fr.then (Fr.of_below u) (zBz A) fun b d=>xac d
 have i:Fr (fun b=>b=Bs∨v.ownBlock=some b) W (f.setCell (aa Bs 0) g):=Fr.then (q.mono fun b d=>xaf d) p fun b d=>xac (xac d)
 have C:f.heap[Bs]? = some (oc #[v] 46):=(q.block Bs (by omega) fun e=>by grind).trans h.box
 have s:∀b,(b=Bs∨v.ownBlock=some b)->∃cs t fz,W.heap[b]? = some (.cells cs t fz):=fun b d=>by
  rcases d with rfl|d
  ·exact ⟨_,_,_,h.box⟩
  grind
 refine ⟨zE9 i fun b _ e=>s b e,zPN i fun b d _=>s b d,xaa f Bs 0 _ _ _ C,p.row l fun k j e=>?_,Fr.then h.fr i fun b d=>?_,y⟩
 ·have:=(zaW l k j).1;omega
 grind
def AxG (Bs:Nat) (w:World) (c:Nat) (A:Nat->Ky->Act) (pre:List Ky) (x:Ky) (a':Act) (W:World):Prop:=∃Bx v,a'=A Bx x/\W.heap[Bx]? = some (.cells #[.string x.1,.string x.2] 36 (0,0))/\KsG Bs w pre v W/\pre.length<c
theorem AxG.own_from (Bs:Nat) (w:World) (n:Nat) (A:Nat->Ky->Act) (pre:List Ky) (x:Ky) (j:Act):OwnFrom w.heap.size (fun (_:Unit) W=>AxG Bs w n A pre x j W):=by
 rintro _ W W' row ⟨f,v,g,i,k,h⟩ d b;exact ⟨f,v,g,zDu i d fun r e=>(b r e).2,k.nc d b,h⟩
def zJh (w:World) (f:Ky->Option We) (e:Ending) (w':World):Prop:=∃u ks,e=.returned u/\KK.Own w.heap.size w' u ks/\ks.Nodup/\(∀k,k∈ks↔yO k/\(f k).isSome=true)/\Below w.heap.size w w'
theorem zCU {f:Ky->Option We} (hq:zIi W0 Bm f c) (hn:c<=2400000000000):CC 207 #[.slice none 0 0,.func (.func 156) #[] #[.pointer (some ⟨Bm,0,none⟩)]] W0 fun e w'=>zJh W0 f e w':=by
 obtain ⟨N,A⟩:=eE W0.heap.size;obtain ⟨w4,hw4⟩:=eE (W0.alloc (.cells #[sc none 0 0] 46));have J:Below N W0 w4:=by rw [<-hw4,<-A];exact zaQ
 have al:w4.heap.size=N+1:=by rw [<-hw4,<-A];simp
 have U:w4.heap[N]? = some (oc #[sc none 0 0] 46):=by rw [<-hw4,<-A];exact xab W0 _
 have ag:=hq w4 (by grind);have ai:Hid (KsG N w4 [] (sc none 0 0) w4):=⟨U,KK.own_nil _ _,Fr.refl _ _,by omega⟩;have aj:=hid J;clear J U hq;have af:=xaR (P:=prog) func156 (by kernel_rfl) rfl;refine (callsIn_wide (n:=3)).1 ?_;refine callsIn_of_wp_marks func207 rfl trivial ?_ rfl;simp only [ntmps207,xbk,xa3,xbi,Nat.reduceAdd,Nat.reduceSub,xb3,xb2,List.push_toArray,xb6,xbe,List.cons_append]
 gi_wp2
 refine nG (w:=w4) rfl (by decide) (gf:=156) (lb:=#[jp Bm]) rfl trivial af
  ag zKl (fun W l o' _ hr=>zPP W l o' hr) (fun _=>rfl) (fun pre W=>∃v,KsG N w4 pre v W) (fun _ _ _=>False) (KsG.own_from _ _) (fun _ _ _ _ _ h _ _=>h.elim) ⟨_,ai.o⟩
  (AxG N w4 c (fun y x=>{ tmps:=#[sc none 0 0,.func (.func 156) #[] #[jp Bm],jp N,undef,sc none 0 0,jp y,.func (.func 156) #[] #[jp Bm],.agg #[tq x.1,tq x.2],undef,undef,undef,undef,undef],defers:=[] }))
  (fun pre x X=>AxG.own_from _ _ _ _ pre x X) ?assign ?body ?done ?stop
 case assign =>
  rintro l pre ⟨q,g⟩ W K ab ⟨v,d⟩ O p;have z:Bw W (W.alloc (.cells #[tq q,tq g] 36)):=zaQ;have t:=hid (p _ _ (zE9 (P:=fun _=>False) (Fr.of_below z) fun b _ e=>e.elim) (zPN (P:=fun _=>False) (Fr.of_below z) fun b e _=>e.elim) ⟨W.heap.size,v,rfl,xab W _,d.nc (zEF z) (fun r e=>by cases e),O.2⟩);simp only [zGN] at t ⊢;clear p d O z
  gi_wp2
  exact t.o
 case body =>
  rintro l pre ⟨q,g⟩ X W ab ⟨y,v,rfl,G,d,am⟩;obtain ⟨i0,hi0,hz0,hz1,hz2⟩:=xaL Tryz.infoKg;have ak:=d.fr.size;obtain ⟨vp,vc,rfl⟩:=zC.own_shape d.own;have z0:W.cell? (aa N 0)=some (sc vp pre.length vc):=by rw [zaC d.box];rfl
  have z2:W.cell? (aa y 0)=some (tq q):=cz G;have z3:W.cell? (aa y 1)=some (tq g):=cz G;have S:=hid d;have HI:=hid hi0;have M:=hid d.own
  have Y:Hid (∀o (i:World),(W.alloc o).grownBy i (Value.slice vp pre.length vc).ownBlock->i.cell? (aa N 0)=some (sc vp pre.length vc)/\i.frozen? (aa N 0)=false):=fun o i hg=>by
   have I:i.heap[N]? = some (oc #[sc vp pre.length vc] 46):=(hg.block N (by simp;omega) fun e=>by have:=(zaW M.o _ e.symm).1;omega).trans ((xaG _ _ _ (by omega)).trans S.o.box);exact ⟨by rw [zaC I];rfl,zaF I 0⟩
  clear d hi0 G
  gi_wp2_with (first
   | (gi_at_builtin;refine wpListIn_append_own _ rfl _ _ 46 rfl w4.heap.size 36 i0 (.agg #[tq ⟨#[]⟩,tq ⟨#[]⟩]) 2 32 underlying46 HI.o hz0 hz1 hz2 rfl (by decide) _ _ _ rfl (xbp M.o _) _ 1 1 [tq q,tq g] rfl rfl (fun j u hj=>KK.newsN W (q,g) _ (by simp) j u hj) (by intro u H;simp at H;rcases H with rfl|rfl<;>rfl) (by unfold maxLen;omega) (by omega) (by simp;omega) ?_;intro v6 i C E ah;obtain ⟨g6,c6,rfl⟩:=ownsRow_succ C;obtain ⟨t0,t1⟩:=Y.out _ _ E;have ac:=hid C;have ad:=hid E;clear C E ah))
  obtain ⟨r1,Z,r3⟩:=zNL (x:=(q,g)) S.o ((zaR _ W).alloc (zaL _) _) ad.o (zC.own_snoc ac.o rfl rfl);exact ⟨r1,Z,_,r3⟩
 case done =>
  rintro s W V ⟨v,d⟩ p;obtain ⟨vp,vc,rfl⟩:=zC.own_shape d.own;have c0:W.cell? (aa N 0)=some (sc vp s.length vc):=by rw [zaC d.box];rfl
  have R:W.grownBy (W.putObj w4.heap.size (.deferred none)) (some w4.heap.size):=grownBy_putObj' W _ _;have D:=d.nc R fun r e=>by injection e with e;rw [<-e];exact ⟨zaL _,_,p,rfl⟩
  have ae:Below N W0 (W.putObj w4.heap.size (.deferred none)):=aj.o.trans (D.fr.below (N:=N) (by omega) fun k hk=>by omega)
  have HP:Hid (zJh W0 f (.returned (sc vp s.length vc)) (W.putObj w4.heap.size (.deferred none))) :=
   ⟨_,s,rfl,zC.own_weak D.own (by omega),V.1,V.2,by grind⟩
  have t:=hid p;clear d D R ae p
  gi_wp2
  refine ⟨by simp,.inl ⟨_,_,rfl,run_takeDeferred t.o,?_⟩⟩;exact ⟨sc vp s.length vc,by simp [results,results207,go_sem],HP.o⟩
 grind
theorem zFL {f:Ky->Option We} (hq:zIi W0 Bm f c) (l:c<=2400000000000):CC 154 #[.func (.func 156) #[] #[.pointer (some ⟨Bm,0,none⟩)]] W0 fun e r=>zJh W0 f e r:=by
 have d:=hid (zCU hq l);go_enter func154,ntmps154;go_wp2_with fail;refine d.o.mono ?_;rintro e j ⟨u,q,rfl,b,i,k,h⟩;have g:Hid (zJh W0 f (.returned u) j):=⟨u,q,rfl,b,i,k,h⟩;obtain ⟨p,c,rfl⟩:=zC.own_shape b;go_wp2_with fail;go_ret;exact g.o
theorem zCo (ks:List Ky) (p:ks.Nodup) (d:Array Ky) (h:PermIn 0 ks.length ks.toArray d) (hs:SortedIn (ltOf Z.cmpK) 0 ks.length d):yU yR d.toList/\(∀x,x∈d.toList↔x∈ks)/\d.size=ks.length:=by
 obtain ⟨l,_,e⟩:=h;have f:d.size=ks.length:=by simpa using l
 have b:d.toList.Perm ks:=by
  have k:(d.extract 0 ks.length).toList=d.toList:=by rw [<-f];simp
  have q:(ks.toArray.extract 0 ks.length).toList=ks:=by simp
  rw [k,q] at e;exact e
 have r:d.toList.Nodup:=b.nodup_iff.2 p;refine ⟨?_,fun x=>b.mem_iff,f⟩;refine List.pairwise_iff_getElem.2 fun i j hi hj g=>?_
 have hi':i<d.size:=by simpa using hi
 have hj':j<d.size:=by simpa using hj
 have:=hs i j (xaE _) g (by omega)
 grind [List.pairwise_iff_getElem,Z.ahead_total,Z.ahead_iff,zPg]
def zQ9 (w:World) (f:Ky->Option We) (e:Ending) (w':World):Prop:=∃u ks,e=.returned u/\KK.Own w.heap.size w' u ks/\yU yR ks/\(∀k,k∈ks↔yO k/\(f k).isSome=true)/\Below w.heap.size w w'
theorem zEw {u:Value} {ks:List Ky} (h:KK.Own B w u ks) (r:ks.Nodup) (y:ks.length<=2400000000000) (q:B<=w.heap.size):CC 155 #[u,.func (.func 104) #[] #[]] w fun e d=>e=.returned (.tuple #[])/\∃l,KK.Own B d u l/\yU yR l/\(∀x,x∈l↔x∈ks)/\l.length=ks.length/\Below B w d:=by
 rcases h.2 with ⟨rfl,p⟩|⟨g,t,z,rfl,_⟩
 ·obtain rfl:=List.length_eq_zero_iff.1 p;refine (zA4 w).mono ?_;rintro e d ⟨rfl,rfl⟩;exact ⟨rfl,[],h,xan,fun x=>xbE,rfl,zaR _ _⟩
 have f:=zC.own_ge h;have s:HoldsK Z.encKey 2 w g 0 ks.toArray:=zC.own_holds h;have:=Z.zsortfunc_any g 0 t ks.toArray w s f.2.1 (by simp;omega);simp only [xbk] at this;refine this.mono ?_;rintro e d ⟨rfl,b,n,i,j,k,rfl⟩;obtain ⟨h1,h2,h3⟩:=zCo ks r b j k;exact ⟨rfl,b.toList,zC.own_sorted h b h3 n i,h1,h2,by omega,gY Z.encKey 2 (zaR _ _) q g 0 n b i f.1⟩
theorem zBn {f:Ky->Option We} (hq:zIi W0 Bm f c) (y:c<=2400000000000) (x:∀b:List Ky,b.Nodup->(∀k,k∈b↔yO k/\(f k).isSome=true)->b.length<=2400000000000):CC 101 #[.func (.func 156) #[] #[.pointer (some ⟨Bm,0,none⟩)],.func (.func 104) #[] #[]] W0 fun e A=>zQ9 W0 f e A:=by
 have j:=hid (zFL hq y);have q:=hid x;go_enter func101,ntmps101;go_wp2_with fail;refine j.o.mono ?_;rintro e C ⟨u,b,rfl,d,g,i,h⟩;have r:=hid (zEw d g (q.o b g i) h.size);have t:=hid i;have z:=hid h;obtain ⟨p,c,rfl⟩:=zC.own_shape d;go_wp2_with fail;refine r.o.mono ?_;rintro e w2 ⟨rfl,l,k1,k2,k3,k4,k5⟩;have s:Hid (zQ9 W0 f (.returned (sc p b.length c)) w2):=⟨_,l,rfl,k1,k2,fun k=>(k3 k).trans (t.o k),z.o.trans k5⟩;go_wp2_with fail;go_ret;exact s.o
theorem zDO (k:Ky):k∈xH L↔(yH L k).isSome=true:=by
 unfold xH;constructor
 ·intro b;obtain ⟨y,f,rfl⟩:=List.mem_map.1 b
  cases e:yH L y.1 with
  | some _=>rfl
  | none=>grind [zDq]
 intro b;obtain ⟨r,d⟩:=Option.isSome_iff_exists.1 b;exact List.mem_map.2 ⟨_,uV d,rfl⟩
theorem zFe {k:Ky} (h:xN k.1 k.2=true):yO k:=by
 unfold xN at h;rw [xaP] at h;have d:=zE0 h.1;have b:=zE3 h.2;have e:k.1.size<=32:=by simpa using d
 have f:k.2.size<=32:=by simpa using b
 grind [yO,maxLen]
theorem zL7 {s t:List Ky} (hs:s.Nodup) (h:∀k∈s,k∈t):s.length<=t.length:=by
 induction s generalizing t with
 | nil=>simp
 | cons k s ih =>
 obtain ⟨f,d⟩:=List.nodup_cons.1 hs;obtain ⟨a,b,rfl⟩:=List.append_of_mem (h k zaH);have:=ih d (t:=a++b) fun x e=>by grind
 grind
theorem zKf {r:Option Addr} {d:Option Nat} {f:Ky->Option We} {g:List Ky} (t:CC 103 #[.pointer r] W fun e j=>e=.returned (.map d)/\j=W)
  (hq:zIi (W.alloc (.cells #[.map d] 162)) W.heap.size f c) (hn:c<=2400000000000) (hK:yU yR g) (hin:∀k,(yO k/\(f k).isSome=true)↔k∈g) (hK0:g.length<=2400000000000):CC 59 #[.pointer r] W fun e l=>zD0 W g e l:=by
 have H:CC 102 #[.map d] W fun e l=>e=.returned (.func (.func 156) #[] #[jp W.z])/\l=W.alloc (.cells #[.map d] 162):=by
  have I:∀(fn:Fn) (first cap:Array Value) (w:World),(Instr.makeFunc fn first cap).run prog w=.ok (.func fn first cap) w:=fun _ _ _ _=>rfl
  go_enter func102,ntmps102
  go_wp2_with fail
  go_ret;exact ⟨rfl,rfl⟩
 have C:Bw W (W.alloc (.cells #[.map d] 162)):=zaQ
 have s:=hid (zBn hq hn fun b h i=>by
  have:=zL7 h fun k h=>(hin k).1 ((i k).1 h)
  omega)
 have D:Hid (∀b:List Ky,yU yR b->(∀k,k∈b↔yO k/\(f k).isSome=true)->b=g):=fun b y i=>vF wX y hK fun z=>(i z).trans (hin z)
 have G:=hid t;have A:=hid H;have q:=hid C;go_enter func59,ntmps59;go_wp2_with fail;refine G.o.mono ?_;rintro e x ⟨rfl,rfl⟩;go_wp2_with fail;refine A.o.mono ?_;rintro e w1 ⟨rfl,rfl⟩;go_wp2_with fail;refine s.o.mono ?_;rintro e j ⟨u,b,rfl,k1,k2,k3,k4⟩;obtain rfl:=D.o b k2 k3;have E:Hid (zD0 x b (.returned u) j):=⟨u,rfl,zC.own_weak k1 (by simp),zA q.o q.o.size k4⟩;obtain ⟨p,c,rfl⟩:=zC.own_shape k1;go_wp2_with fail;go_ret;exact E.o
theorem zEc {n0:Nat} {B:Nat->Prop} {g:Nat} (h:qP n0 W B g L) (j:L.length<=1300000000000):CC 59 #[.pointer (some ⟨g,0,none⟩)] W fun e i=>zD0 W (xH L) e i:=by
 obtain ⟨m,F,O,h⟩:=h;have d:Bw W (W.alloc (.cells #[.map (some m)] 162)):=zaQ;refine zKf (bY g m W h.cell) (zIi.of (by simp [go_sem]) (h.on d).map) (by omega) ?_ (fun k=>?_) ?_
 ·unfold xH;exact List.pairwise_map.2 h.ok.rise
 ·rw [zDO,dD];refine ⟨fun b=>b.2,fun b=>⟨?_,b⟩⟩;obtain ⟨r,f⟩:=Option.isSome_iff_exists.1 b;exact zFe (h.ok.key _ (uV f))
 grind [xH]
end
end
theorem Tryz.infoC15:(prog.info? 67).map (fun i=>(i.zero,i.size,i.bytes))=some (some (.agg #[.string ⟨#[]⟩,.string ⟨#[]⟩,.bool false,.slice none 0 0,.bool false,.slice none 0 0]),6,96):=by kernel_rfl
theorem zIn {W : World} {g : Nat} (F : Ky -> Ch) (v : Value) (ks : List Ky) (hv : KK.Is W v ks) (hl : ks.length <= 1400000000000)
    (hk : ∀ f, Below W.heap.size W f -> ∀ k ∈ ks, CC 60 #[.pointer (some ⟨g,0,none⟩), .agg #[.string k.1, .string k.2]] f fun e d => zF0 f (F k) e d):CC 58 #[v, .func (.func 60) #[.pointer (some ⟨g,0,none⟩)] #[]] W fun e f => kI W (ks.map F) e f := by
  obtain ⟨i0, ah, af, ag, an⟩ := xaL Tryz.infoC15;have ar := hid ah;obtain ⟨pf, cf, rfl, hat⟩ := hv;have ad := hid hat;have HK := hid hk;have ap : Hid (zBj W [] none 0 W /\ ([] : List Cx).map Cx.ch = (ks.map F).take 0) := ⟨zBj.nil W, rfl⟩;go_enter func58, ntmps58;go_wp2_with fail
  go_loopg [5, 10] ks.length (fun gg v5 vi wr => ∃ (i : Nat) (p : Option Addr) (c : Nat) (L : List Cx), vi = ii i /\ v5 = sc p L.length c /\ i <= ks.length /\ ks.length - i <= gg /\ L.length <= i /\ Hid (zBj W L p c wr /\ L.map Cx.ch = (ks.map F).take i))
  case atStart => exact ⟨0, none, 0, [], rfl, rfl, by omega, by omega, by simp, ap.out⟩
  obtain ⟨i, p, c, L, rfl, rfl, hi, bc, az, a⟩ := hrel
  by_cases hlt : i < ks.length
  · have aj : (i : Int) < (ks.length : Int) := by omega
    have ba : (0 : Int) <= i := by omega
    have D : Below W.heap.size W wr := a.out.1.row.bel
    obtain ⟨b1, o1, rfl, k1⟩ : ∃ b off, pf = some (aa b off) /\ KK.At W b off ks := by
      rcases ad.out with h | h
      · rw [h] at hlt; simp at hlt
      exact h
    obtain ⟨y0, y1⟩ := zH9 (zC.at_kept k1 D) i hlt
    have aw : (ks.map F).take (i + 1) = (ks.map F).take i ++ [F ks[i]] := by
      rw [zaK (by rw [zaM]; exact hlt), xa4]
    have N := hid aw;have av := zaN hlt;have ao := hid av
    generalize ks[i] = k at *
    obtain ⟨O, o⟩ : ∃ O, wr.heap.size = O := ⟨_, rfl⟩;obtain ⟨V0, hV0⟩ : ∃ V0, wr.alloc (.cells #[tq ⟨#[]⟩, tq ⟨#[]⟩] 36) = V0 := ⟨_, rfl⟩;have l : V0.heap[O]? = some (.cells #[tq ⟨#[]⟩, tq ⟨#[]⟩] 36 (0, 0)) := by rw [<- hV0, <- o]; exact xab wr _
    obtain ⟨V, t⟩ : ∃ V, (V0.setCell (aa O 0) (tq k.1)).setCell (aa O 1) (tq k.2) = V := ⟨_, rfl⟩
    have P : V.heap[O]? = some (.cells #[tq k.1, tq k.2] 36 (0, 0)) := by
      rw [<- t];exact xaa _ O 1 _ _ _ (xaa _ O 0 _ _ _ l)
    have X : Below wr.heap.size wr V := by
      rw [<- t, o];have q0 : Below O wr V0 := by rw [<- hV0, <- o]; exact zaQ
      exact (q0.setCell (by simp) _).setCell (by simp) _
    have s0 : V0.cell? (aa O 0) = some (tq ⟨#[]⟩) := cz l;have s1 : V0.cell? (aa O 1) = some (tq ⟨#[]⟩) := cz l;have r0 : V0.frozen? (aa O 0) = false := zaF l 0;have j : V0.frozen? (aa O 1) = false := zaF l 1;have t0 : V.cell? (aa O 0) = some (tq k.1) := cz P;have t1 : V.cell? (aa O 1) = some (tq k.2) := cz P;have Y := hid (HK.out V (zA D D.size X) k ao.out);have A := hid X;obtain ⟨FK, au⟩ : ∃ FK, F k = FK := ⟨_, rfl⟩;rw [au] at Y N;obtain ⟨ka, kb⟩ := k;simp only at *;go_upto_region 5 with fail
    (try rw [o]);(try rw [hV0]);(try rw [t]);go_wp2_with fail;refine Y.out.mono ?_;rintro e2 d ⟨z, rfl, am, ai, ax⟩;have hb2' : Below wr.heap.size wr d := zA A.out A.out.size ax;obtain ⟨B, hB⟩ : ∃ B, d.heap.size = B := ⟨_, rfl⟩;obtain ⟨W3, hW3⟩ : ∃ W3, d.alloc (.cells (xW z).toArray 67) = W3 := ⟨_, rfl⟩;have U : Below d.heap.size d W3 := by rw [<- hW3]; exact zaQ
    have ay : Hid (W3.heap[B]? = some (.cells (KCx.enc z).toArray 67 (0, 0))) := by
      show _ = _
      rw [<- hW3, <- hB];exact xab d _
    have h3 : Below wr.heap.size wr W3 := zA hb2' hb2'.size U;have ab := hid (a.out.1.on h3);have q := hid (am.on U);have Z : Hid (wr.heap.size <= V.heap.size /\ W.heap.size <= wr.heap.size) := ⟨A.out.size, a.out.1.row.base⟩
    have aq : Hid (∀ (m C : Nat) (s : World), yG KCx W.heap.size W (sc (some (aa m 0)) (L.length + 1) C) (L ++ [z]) s -> W3.grownBy s (Value.slice p L.length c).ownBlock -> ((Value.slice p L.length c).ownBlock = some m ∨ m = W3.heap.size) -> zBj W (L ++ [z]) (some (aa m 0)) C s /\ (L ++ [z]).map Cx.ch = (ks.map F).take (i + 1)) := fun m C s j r n => by
      refine ⟨ab.out.push (q.out.weak (by have := Z.out; omega)) ⟨q.out.wcp, q.out.icp⟩ (fun b hb => ?_) j r n, ?_⟩
      · have e1 := (q.out.blk b hb).1
        have e2 := Z.out;refine ⟨fun e => ?_, fun y hy ac => ?_⟩
        · have := (zaW (show wr.ownsRow W.heap.size KCx.T KCx.k (sc p L.length c) L.length (KCx.cells L) from a.out.1.row.own) b e).2
          omega
        have := ((a.out.1.each y hy).1.blk b ac).2
        omega
      rw [xak, a.out.2, N.out, <- ai]
      rfl
    have al := hid ab.out.row;obtain ⟨J, M, K, x, w, E, H, u, G, I⟩ := z;simp only [xW] at *
    go_wp2_with (first
      | (at_builtin
         (try rw [hB]); (try rw [hW3]);refine xG KCx rfl _ _ 50 rfl i0 _ 96 underlying50 ar.out af ag an rfl W.heap.size W (sc p L.length c) L rfl al.out ⟨J, M, K, x, w, E, H, u, G, I⟩ B 1 1 rfl rfl _ _ ay.out (by unfold maxLen; omega) (by omega) ?_;intro S R w3 j r n;have ae := hid (aq.out S R w3 j r n);clear j r n)
      | fail)
    have Q : (L ++ [(⟨J, M, K, x, w, E, H, u, G, I⟩ : Cx)]).length = L.length + 1 := by simp
    go_roundg (ks.length - (i + 1))
    case measure => omega
    exact ⟨i + 1, some (aa S 0), R, L ++ [(⟨J, M, K, x, w, E, H, u, G, I⟩ : Cx)], by go_num, by rw [Q], by omega, by omega, by rw [Q]; omega, ae.out⟩
  have aj : ¬ (i : Int) < (ks.length : Int) := by omega
  have bb : i = ks.length := by omega
  have ak : Hid (kI W (ks.map F) (.returned (sc p L.length c)) wr) := by
    have e : (ks.map F).take i = ks.map F := xaj (by rw [zaM]; omega);refine ⟨p, c, L, rfl, a.out.1.row.own, a.out.1.each, a.out.1.apart, by rw [a.out.2, e], a.out.1.row.bel⟩
  go_wp2_with fail
  go_ret;exact ak.out
def XsC (n0 nr:Nat) (W:World) (h:Nat) (gs:List Nat) (c:Nat->Nat) (l:List Ch) (S':Sv) (e:Ending) (w':World):Prop:=kI W l e w'/\cK n0 nr W h gs c S' W.heap.size w'
theorem mX {D:List zQ} {x:Tx} (h:OkW x.wr) (a:x.ended=false):zD D x=(xH x.wr).map fun k=>⟨k,((xT D x.snap k).getD zeroV).live,((xT D x.snap k).getD zeroV).val,xM (yH x.wr k),jZ (yH x.wr k)⟩:=by
 unfold zD;rw [a,xag (by decide)];unfold xH;rw [xbW];refine xb5 fun y b=>?_
 show zNA D x.snap y=Ch.mk y.1 _ _ (xM (yH x.wr y.1)) (jZ (yH x.wr y.1))
 rw [fY h.rise b];rfl
theorem zA2 {n0 j:Nat} {W:World} {s:Ps} {c:Nat->Nat} (x:zS n0 W s c) (f:xF j s) (hn:j<=1300000000000) {i:Nat} {y:Px} (l:s.xs[i]? = some y):CC 16 #[.pointer (some ⟨y.g,0,none⟩)] W fun e a=>XsC n0 j W s.h (s.xs.map Px.g) c (zD s.D y.tx) s.sv e a:=by
 have n:=hid (x.endis l W (zaR _ _))
 have M:Hid (∀e a,kI W (zD s.D y.tx) e a->XsC n0 j W s.h (s.xs.map Px.g) c (zD s.D y.tx) s.sv e a):=fun e a q=>by
  have b:Bw W a:=by
   obtain ⟨_,_,_,_,_,_,_,_,b⟩:=q;exact b
  exact ⟨q,(Mid.start x f (zaL j) b).stepN rfl (zaL _) x.out⟩
 cases hE:y.ended with
 | true =>
  have w:zD s.D y.tx=[]:=by
   unfold zD;rw [xae (show y.tx.ended=true from hE)]
  rw [hE] at n;have U:=hid (M.o (.returned (sc none 0 0)) W (by rw [w];exact ⟨none,0,[],rfl,zC.own_nil _ _ _,(fun _ h=>by cases h),xan,rfl,zaR _ _⟩))
  generalize zD s.D y.tx=CH at *
  generalize y.g=g at *
  go_enter func16,ntmps16
  go_wp2_with fail
  refine n.o.mono ?_;rintro e1 d ⟨rfl,rfl⟩;go_wp2_with fail;go_ret;exact U.o
 | false =>
 rw [hE] at n;have H:=x.xat l hE;obtain ⟨_,_,_,x3,_⟩:=H.xc;obtain ⟨B,hw,hB⟩:=x.wrt l hE;have ab:=f.lod l hE;have K:OkW y.L:=(f.okw l).wr;have V:=hid (zEc hw (by omega));have w:=mX (D:=s.D) K (show y.tx.ended=false from hE)
 have P:Hid (∀d u,KK.Own W.z d u (xH y.L)->Bw W d->CC 58 #[u,.func (.func 60) #[jp y.g] #[]] d fun e a=>kI W (zD s.D y.tx) e a):=fun d u A b=>by
  refine (zIn (g:=y.g) (fun k=>⟨k,((xT s.D y.snap k).getD zeroV).live,((xT s.D y.snap k).getD zeroV).val,xM (yH y.L k),jZ (yH y.L k)⟩) u (xH y.L) (zC.own_is A) (by unfold xH;rw [zaM];omega) fun a T k I=>?_).mono fun e a q=>?_
  ·have v:Bw W a:=zA b b.size T;refine zFm (H.on v) (x.dirS.on v) (n0:=n0) (B:=B) (by obtain ⟨m,F,O,t⟩:=hw;exact ⟨m,F,O,t.on v⟩) k ?_;unfold xH at I;obtain ⟨r,hr,rfl⟩:=List.mem_map.1 I;exact key_fit (K.key r hr)
  rw [w];obtain ⟨p,C,J,Z,Y,E,S,Q,N⟩:=q;refine ⟨p,C,J,Z,zC.own_weak Y b.size,fun z G=>⟨(E z G).1.weak b.size,(E z G).2⟩,S,Q,zA b b.size N⟩
 generalize zD s.D y.tx=CH at *
 generalize y.g=g at *
 generalize y.gw=gw at *
 go_enter func16,ntmps16
 go_wp2_with fail
 refine n.o.mono ?_;rintro e1 d ⟨rfl,rfl⟩;go_wp2_with fail;refine V.o.mono ?_;rintro e2 w2 ⟨u,rfl,A,hb2⟩;have R:=hid (P.o w2 u A hb2);go_wp2_with fail;refine R.o.mono ?_;rintro e3 w3 t;have X:=hid (M.o e3 w3 t);obtain ⟨p,C,J,rfl,_⟩:=t;go_wp2_with fail;go_ret;exact X.o
section
variable {g:Nat}
theorem zCn {n0 n:Nat} {D:List zQ} {W:World} {m id:Int} {h gw:Nat} {ks rs:Value} {t hs hc hq ht:Nat} {ae:Int} (x:XAt W g m id h gw ks rs t hs hc hq ht ae) (hD:uP n0 t n D W) (k:Ky) (G:yO k):CC 110 #[.pointer (some ⟨g,0,none⟩),.agg #[.string k.1,.string k.2]] W fun e c=>e=.returned (.bool (decide (m<(yF (ofD D k)).stamp)))/\Below W.heap.size W c:=by
 obtain ⟨V,F⟩:=eE (W.alloc (.cells #[tq k.1,tq k.2] 36));obtain ⟨Q,hQ⟩:=eE W.heap.size;have h1:V.heap[Q]? = some (oc #[tq k.1,tq k.2] 36):=by rw [<-F,<-hQ];exact xab W _
 have L:Bw W V:=by rw [<-F];exact zaQ
 have HV:=hid L;have O:=x.on L;obtain ⟨R,_,x2,_⟩:=O.xc;obtain ⟨s0,_⟩:=O.sc;have a0:V.cell? (aa Q 0)=some (tq k.1):=cz h1;have U:V.cell? (aa Q 1)=some (tq k.2):=cz h1
 have i:Hid (∀p,Bw V p->p.cell? (aa Q 0)=some (tq k.1)/\p.cell? (aa Q 1)=some (tq k.2)/\p.cell? (aa g 0)=some (iu m)/\p.cell? (aa g 2)=some (jp h)/\p.cell? (aa h 0)=some (jp t)):=fun p q =>
  ⟨(q.cell (zI a0)).trans a0,(q.cell (zI U)).trans U,(q.cell (zI R)).trans R,(q.cell (zI x2)).trans x2,(q.cell (zI s0)).trans s0⟩
 have ab:Hid (∀C,Bw V C->CC 162 #[jp t,.agg #[tq k.1,tq k.2]] C fun e c=>vZ C (ofD D k).getLast? e c):=fun C q=>zRT ((hD.on L).on q) k G
 have ac:=i.o V (zaR _ _)
 have Y:Hid (∀y:Vx,y.ver=(ofD D k).getLast?.getD zeroV->y.stamp=(yF (ofD D k)).stamp):=fun y hy=>by
  have e:y.ver.stamp=y.stamp:=rfl;rw [<-e,hy];rfl
 generalize (yF (ofD D k)).stamp=LS at *
 generalize (ofD D k).getLast? = o at *
 obtain ⟨T,P⟩:=k;simp only at *;go_enter func110,ntmps110;go_upto_region 1 with fail
 (try rw [F]);(try rw [hQ])
 go_cut [5,6] from 7 (fun v5 v6 Z=>∃X,v5=jp X/\v6=.bool o.isSome/\Hid (Z.cell? (aa X 1)=some (iu LS)/\Bw V Z))
 case first =>
  refine tkb (S:=fun c=>c.cell? (aa Q 0)=some (tq T)/\c.cell? (aa Q 1)=some (tq P)/\c.cell? (aa g 0)=some (iu m)/\c.cell? (aa g 2)=some (jp h)/\c.cell? (aa h 0)=some (jp t)) ac fun hA=>?_;refine tkv4 0 1 2 3 (jp g) (jp g) (.pointer (some (aa g 2))) (jp h) hA ?_;simp only [Act.put,sz];refine tkv3 4 5 6 (jp h) (jp h) (jp h) hA ?_;simp only [Act.put,sz];refine tkv2 7 8 (jp t) (.agg #[tq T,tq P]) hA ?_;simp only [Act.put,sz];have s:Hid (Bw V V.drew):=zG (zaR _ V) 1
  generalize V.drew=V1 at *
  refine xaA (rs:=[9,13]) (by kernel_rfl) (by simp) ?_;refine xao (zB rfl) (fun K d=>?_) (xao (zB rfl) (fun K d=>?_) xau)
  ·rw [xae (by rfl)]
   go_simp
   refine (ab.o V1 s.o).mono ?_;rintro e b ⟨y,rfl,J,af,B⟩;have j:Hid (Bw V b):=zA s.o s.o.size B;have I:=hid (Y.o y J);have E:=i.o b j.o;obtain ⟨yn,ys,yt,yl,yp,yc,yo⟩:=y;simp only [zF,Vx.sl] at *;go_wp2_with fail;refine d.out _ _ E (fun hA=>?_)
   try simp only [Act.put,sz]
   refine tkv3 10 11 12 (.tuple #[.agg #[ii yn,iu ys,ii yt,.bool yl,sc yp yo.length yc],.bool o.isSome]) (.agg #[ii yn,iu ys,ii yt,.bool yl,sc yp yo.length yc]) (.bool o.isSome) hA ?_;simp only [Act.put,sz];refine tkc 13 fun K d=>?_
   go_simp
   obtain ⟨X,r⟩:=eE b.heap.size;obtain ⟨W3,hW3⟩:=eE (b.alloc (.cells #[ii 0,iu 0,ii 0,.bool false,sc none 0 0] 42));have z:Bw b W3:=by rw [<-hW3];exact zaQ
   have v:Hid (W3.heap[X]? = some (oc #[ii 0,iu 0,ii 0,.bool false,sc none 0 0] 42)):=by show _=_;rw [<-hW3,<-r];exact xab b _
   have A:Hid (V.heap.size<=X/\X<W3.heap.size):=⟨by rw [<-r];exact j.o.size,(gA v.o).1⟩;have l:Hid (Bw V W3):=zA j.o j.o.size z;have ad:=hid z;have H:=i.o W3 l.o;go_wp2_with fail;(try rw [r]);(try rw [hW3]);refine d.out _ _ H (fun hA=>?_)
   try simp only [Act.put,sz]
   have a:=v.o;obtain ⟨f,w⟩:=eE ((((((W3.setCell (aa X 0) (ii yn)).setCell (aa X 1) (iu ys)).setCell (aa X 2) (ii yt)).setCell (aa X 3) (.bool yl)).setCell (aa X 4) (sc yp yo.length yc)));obtain ⟨hbz,fz⟩:=vB a ⟨yn,ys,yt,yl,yp,yc,yo⟩ f w;have y0:W3.cell? (aa X 0)=some (ii 0):=cz a;have y1:W3.cell? (aa X 1)=some (iu 0):=cz a;have y2:W3.cell? (aa X 2)=some (ii 0):=cz a;have y3:W3.cell? (aa X 3)=some (.bool false):=cz a;have y4:W3.cell? (aa X 4)=some (sc none 0 0):=cz a;have z0:=zaF a;have u:Hid (Bw V f):=l.o.trans (fz.below l.o.size fun k G=>by have:=A.o;omega);have N:Hid (f.cell? (aa X 1)=some (iu LS)/\Bw V f):=⟨by rw [<-I.o,zaC hbz];rfl,u.o⟩;have M:=i.o f u.o;refine tkc 14 fun K d=>?_
   go_simp
   go_wp2_with fail
   (try rw [w]);refine d.out _ _ M (fun hA=>?_)
   try simp only [Act.put,sz]
   refine tkv 15 (.bool o.isSome) hA ?_;simp only [Act.put,sz];refine tkd ?_;go_wp2_with fail;go_meet;exact ⟨X,rfl,rfl,N.o⟩
  rw [xae (by rfl)]
  go_simp
  obtain ⟨X,r⟩:=eE V1.heap.size;obtain ⟨W3,hW3⟩:=eE (V1.alloc (.cells #[ii 0,iu 0,ii 0,.bool false,sc none 0 0] 42));have z:Bw V1 W3:=by rw [<-hW3];exact zaQ
  have v:Hid (W3.heap[X]? = some (oc #[ii 0,iu 0,ii 0,.bool false,sc none 0 0] 42)):=by show _=_;rw [<-hW3,<-r];exact xab V1 _
  have A:Hid (V.heap.size<=X/\X<W3.heap.size):=⟨by rw [<-r];exact s.o.size,(gA v.o).1⟩;have l:Hid (Bw V W3):=zA s.o s.o.size z;have ad:=hid z;have H:=i.o W3 l.o;go_wp2_with fail;(try rw [r]);(try rw [hW3]);refine d.out _ _ H (fun hA=>?_)
  try simp only [Act.put,sz]
  refine tkc 9 fun K d=>?_
  go_simp
  refine (ab.o W3 l.o).mono ?_;rintro e b ⟨y,rfl,J,af,B⟩;have j:Hid (Bw V b):=zA l.o l.o.size B;have ag:=hid ((B.block X A.o.2).trans v.o);have I:=hid (Y.o y J);have E:=i.o b j.o;obtain ⟨yn,ys,yt,yl,yp,yc,yo⟩:=y;simp only [zF,Vx.sl] at *;go_wp2_with fail;refine d.out _ _ E (fun hA=>?_)
  try simp only [Act.put,sz]
  refine tkv3 10 11 12 (.tuple #[.agg #[ii yn,iu ys,ii yt,.bool yl,sc yp yo.length yc],.bool o.isSome]) (.agg #[ii yn,iu ys,ii yt,.bool yl,sc yp yo.length yc]) (.bool o.isSome) hA ?_;simp only [Act.put,sz];have a:=ag.o;obtain ⟨f,w⟩:=eE ((((((b.setCell (aa X 0) (ii yn)).setCell (aa X 1) (iu ys)).setCell (aa X 2) (ii yt)).setCell (aa X 3) (.bool yl)).setCell (aa X 4) (sc yp yo.length yc)));obtain ⟨hbz,fz⟩:=vB a ⟨yn,ys,yt,yl,yp,yc,yo⟩ f w;have y0:b.cell? (aa X 0)=some (ii 0):=cz a;have y1:b.cell? (aa X 1)=some (iu 0):=cz a;have y2:b.cell? (aa X 2)=some (ii 0):=cz a;have y3:b.cell? (aa X 3)=some (.bool false):=cz a;have y4:b.cell? (aa X 4)=some (sc none 0 0):=cz a;have z0:=zaF a;have u:Hid (Bw V f):=j.o.trans (fz.below j.o.size fun k G=>by have:=A.o;omega);have N:Hid (f.cell? (aa X 1)=some (iu LS)/\Bw V f):=⟨by rw [<-I.o,zaC hbz];rfl,u.o⟩;have M:=i.o f u.o;refine tkc 14 fun K d=>?_
  go_simp
  go_wp2_with fail
  (try rw [w]);refine d.out _ _ M (fun hA=>?_)
  try simp only [Act.put,sz]
  refine tkv 15 (.bool o.isSome) hA ?_;simp only [Act.put,sz];refine tkd ?_;go_wp2_with fail;go_meet;exact ⟨X,rfl,rfl,N.o⟩
 obtain ⟨X,rfl,rfl,HC⟩:=hcut;obtain ⟨c1,hbc⟩:=HC.o;obtain ⟨_,_,t0,_,_⟩:=i.o wc hbc;have HB:=hid (zA HV.o HV.o.size hbc);go_upto_region 2 with fail
 refine tkb (S:=fun c=>c.cell? (aa X 1)=some (iu LS)/\c.cell? (aa g 0)=some (iu m)) ⟨c1,t0⟩ fun hA=>?_;refine tkv4 0 1 2 3 (.pointer (some (aa X 1))) (iu LS) (jp g) (jp g) hA ?_;simp only [Act.put,sz];refine tkv4 4 5 6 7 (jp g) (iu m) (.bool (decide (m<LS))) (.bool (decide (m<LS))) hA ?_;simp only [Act.put,sz];refine tkd ?_;go_wp2_with fail;go_ret;exact ⟨rfl,HB.o.drew⟩
theorem zLX (f:Ky->Bool) (v:Value) (l:List Ky) (w:World) (t:KK.Is w v l) (P:l.length<=9000000000000000000)
  (hk:∀(W:World) (x:Ky),Below w.heap.size w W->x∈l->CC 110 #[.pointer (some ⟨g,0,none⟩),.agg #[.string x.1,.string x.2]] W fun e m=>e=.returned (.bool (f x))/\Below W.heap.size W m):CC 161 #[v,.func (.func 110) #[.pointer (some ⟨g,0,none⟩)] #[]] w fun e m=>(∃n:Int,e=.returned (.int .i64 n)/\decide (n≥0)=l.any f)/\Below w.heap.size w m:=by
 obtain ⟨p,Q,rfl,C⟩:=t;have u:=hid C;have A:=hid hk;go_enter func161,ntmps161;go_wp2_with fail
 go_loopg [8] l.length (fun gg y wr=>∃i:Nat,y=ii i/\i<=l.length/\l.length-i<=gg/\Hid (Bw w wr/\∀x∈l.take i,f x=false))
 case atStart=>exact ⟨0,rfl,by omega,by omega,zaR _ _,fun x a=>by simp at a⟩
 obtain ⟨i,rfl,hi,O,c⟩:=hrel
 by_cases hlt:i<l.length
 ·have I:(i:Int)<(l.length:Int):=by omega
  have z:(0:Int)<=i:=by omega
  obtain ⟨L,M,rfl,E⟩:∃b off,p=some (aa b off)/\KK.At w b off l:=by
   rcases u.o with h|h
   ·rw [h] at hlt;simp at hlt
   exact h
  obtain ⟨K,N⟩:=zH9 (zC.at_kept E c.o.1) i hlt;have r:l[i]∈l:=zaN hlt;have D:l.take (i+1)=l.take i++[l[i]]:=zaK hlt;have d:=hid (A.o wr l[i] c.o.1 r)
  have J:Hid (f l[i]=false->∀x∈l.take (i+1),f x=false):=fun h x a=>by
   rw [D] at a
   rcases List.mem_append.1 a with a|a
   ·exact c.o.2 x a
   rw [List.mem_singleton.1 a];exact h
  have s:Hid (f l[i]=true->l.any f=true):=fun h=>List.any_eq_true.2 ⟨_,r,h⟩
  have j:=hid c.o.1
  generalize l[i]=x at *
  cases hq:f x with
  | true =>
   rw [hq] at d;have H:=hid (s.o hq);go_wp2_with fail;refine d.o.mono ?_;rintro e B ⟨rfl,q⟩;have k:=hid (zA j.o j.o.size q);go_wp2_with fail;go_ret;exact ⟨⟨i,rfl,by rw [H.o];exact xas z⟩,k.o⟩
  | false =>
  rw [hq] at d;have F:=hid (J.o hq);go_wp2_with fail;refine d.o.mono ?_;rintro e B ⟨rfl,q⟩;have k:=hid (zA j.o j.o.size q);go_wp2_with fail;go_roundg (l.length-(i+1))
  case measure=>omega
  exact ⟨i+1,by go_num,by omega,by omega,k.o,F.o⟩
 have I:¬ (i:Int)<(l.length:Int):=by omega
 have G:l.take i=l:=xaj (by omega);rw [G] at c;go_wp2_with fail;go_ret;refine ⟨⟨-1,rfl,?_⟩,c.o.1⟩
 have:l.any f=false:=by
  rw [xbz];exact fun x a=>by rw [c.o.2 x a];simp
 rw [this]
 decide
theorem zM6 (f:Ky->Bool) (v:Value) (l:List Ky) (w:World) (c:KK.Is w v l) (j:l.length<=9000000000000000000)
  (hk:∀(W:World) (x:Ky),Below w.heap.size w W->x∈l->CC 110 #[.pointer (some ⟨g,0,none⟩),.agg #[.string x.1,.string x.2]] W fun e d=>e=.returned (.bool (f x))/\Below W.heap.size W d):CC 109 #[v,.func (.func 110) #[.pointer (some ⟨g,0,none⟩)] #[]] w fun e d=>e=.returned (.bool (l.any f))/\Below w.heap.size w d:=by
 have k:=hid (zLX f v l w c j hk)
 obtain ⟨a,n,b,rfl⟩:∃a n b,v=sc a n b:=by
  obtain ⟨a,b,rfl,_⟩:=c;exact ⟨a,_,b,rfl⟩
 clear c hk;go_enter func109,ntmps109;go_wp2_with fail;refine k.o.mono ?_;rintro e q ⟨⟨n,rfl,i⟩,h⟩;have p:=hid i;have m:=hid h;clear i h;go_wp2_with fail;go_ret;exact ⟨zH p.o,m.o⟩
end
def wrR (s:Ps) (chs:List Ch):(Int × Int) × Ps:=if chs=[] then ((0,0),s) else if s.vers<(zT s.D:Int)+(chs.length:Int) then ((0,9),s) else if s.last=tD then ((0,10),s)
 else ((s.last+1,0),{ s with last:=s.last+1,nv:=s.nv+chs.length,D:=yV s.D chs (s.last+1) s.tick })
def cW (n0:Nat) (W:World) (c:Nat->Nat) (r:(Int × Int) × Ps) (e:Ending) (w':World):Prop:=e=.returned (.tuple #[.int .u64 r.1.1,.int .i64 r.1.2])/\∃c',zS n0 w' r.2 c'/\(∀k,k<W.heap.size->c' k=c k)/\Fr (fun k=>c k=2∨c k=5) W w'
theorem zG7 (D:List zQ) (l:List Ch) (x:Ch) (n t:Int):yV D (l++[x]) n t=nI (yV D l n t) x.key n t x.il x.is:=by grind [yV]
theorem zIo {n0 N:Nat} {W:World} {s:Ps} {c:Nat->Nat} (x:zS n0 W s c) (h0:0<=s.last) (h1:s.last<=tD) (cc:(zT s.D:Int)<=4096) (v:Value) (cs:List Cx) (ai:KCx.Own N W v cs) (al:∀z∈cs,vS N W z) (bc:∀z∈cs,yO (z.a,z.b)) (hN:∀k,N<=k->c k=0) (bs:s.nv+cs.length<=1300000000000):CC 65 #[.pointer (some ⟨s.h,0,none⟩),v] W fun e d=>cW n0 W c (wrR s (cs.map Cx.ch)) e d:=by
 obtain ⟨p,M,rfl,bw⟩:=zC.own_is ai
 by_cases hnil:cs.length=0
 ·have bg:cs=[]:=xbb hnil;subst bg
  have Y:Hid (cW n0 W c (wrR s ([].map Cx.ch)) (.returned (.tuple #[iu 0,ii 0])) W):=by
   unfold wrR;rw [xae (by simp)];exact ⟨rfl,c,x,fun _ _=>rfl,Fr.refl _ _⟩
  simp only [xbi] at *
  generalize wrR s ([].map Cx.ch)=R at *
  generalize s.h=h at *
  go_enter func65,ntmps65
  go_wp2_with fail
  go_ret2
  exact Y.o
 have am:cs.map Cx.ch≠[]:=fun e=>hnil (by simp_all)
 have bt:((cs.length:Int)==0)=false:=by simpa using hnil
 have ag:=hid fun n=>zB7 (W:=W.drewN n) (x.on (zG (zaR W.heap.size W) n)).stat (x.on (zG (zaR W.heap.size W) n)).dirS (by omega)
 have bh:Hid (∀d,Bw W d->cC d s.hs s.last):=fun d g=>(x.on g).cnt.1
 obtain ⟨_,_,_,_,_,c5⟩:=x.cells
 have aj:Hid (∀d,Bw W d->d.cell? (aa s.h 0)=some (jp s.hd)/\d.cell? (aa s.h 1)=some (jp s.hs)/\d.cell? (aa s.h 2)=some (jp s.hc)/\d.cell? (aa s.h 5)=some (ii s.vers)):=fun d g=>by
  obtain ⟨J,l,B,_,_,q5⟩:=(x.on g).cells;exact ⟨J,l,B,q5⟩
 have L:=hid x
 by_cases hfull:s.vers<(zT s.D:Int)+(cs.length:Int)
 ·have Y:Hid (∀d,Bw W d->cW n0 W c (wrR s (cs.map Cx.ch)) (.returned (.tuple #[iu 0,ii 9])) d):=fun d g=>by
   unfold wrR;rw [xag am,xae (by grind)];exact ⟨rfl,c,L.o.on g,fun _ _=>rfl,Fr.of_below g⟩
  generalize wrR s (cs.map Cx.ch)=R at *
  generalize s.h=h at *
  generalize s.vers=ve at *
  generalize zT s.D=cn at *
  go_enter func65,ntmps65
  go_upto_region 3 with fail
  refine tkb (S:=fun d=>d.cell? (aa h 5)=some (ii ve)) c5 fun hA=>?_;refine tkv4 0 2 3 5 (jp h) (sc p cs.length M) (ii (cs.length:Int)) (jp h) hA ?_;simp only [Act.put,sz];refine tkv3 6 7 8 (jp h) (.pointer (some (aa h 5))) (ii ve) hA ?_;simp only [Act.put,sz];refine tkc 1 fun K I=>?_
  go_simp
  refine (ag.o 1).mono ?_;rintro e1 r ⟨rfl,X⟩;have E:Bw W r:=zA (zG (zaR W.heap.size W) 1) (by simp) X;obtain ⟨d0,d1,d2,d5⟩:=aj.o r E;have H:=hid E;go_wp2_with fail;have av:IntKind.i64.wrap ((cn:Int)+(cs.length:Int))=(cn:Int)+(cs.length:Int):=by rw [xam];omega
  refine I.out _ _ d5 (fun hA=>?_)
  try simp only [Act.put,sz]
  refine tkv2 4 9 (ii ((cn:Int)+(cs.length:Int))) (.bool true) hA ?_;simp only [Act.put,sz];refine tkd ?_;have ac:=hid (Y.o r H.o);go_wp2_with fail
  go_ret2
  exact ac.o
 have aw:Hid (∀d,Bw W d->CC 112 #[jp s.hs] d fun e y=>zH7 d s.hs s.last e y):=fun d g=>zKg (bh.o d g) h0 h1
 by_cases hsp:s.last=tD
 ·have Y:Hid (∀d,Bw W d->cW n0 W c (wrR s (cs.map Cx.ch)) (.returned (.tuple #[iu 0,ii 10])) d):=fun d g=>by
   unfold wrR;rw [xag am,xag (by grind),xae hsp];exact ⟨rfl,c,L.o.on g,fun _ _=>rfl,Fr.of_below g⟩
  have af:Hid (∀d,Bw W d->CC 112 #[jp s.hs] d fun e y=>e=.returned (.tuple #[iu 0,ii 10])/\y=d):=fun d g=>(aw.o d g).mono fun e y q=>by
   rcases q with ⟨_,q⟩|⟨q,_⟩
   ·exact q
   omega
  generalize wrR s (cs.map Cx.ch)=R at *
  generalize s.h=h at *
  generalize s.hs=j at *
  generalize s.vers=ve at *
  generalize zT s.D=cn at *
  go_enter func65,ntmps65
  go_upto_region 3 with fail
  refine tkb (S:=fun d=>d.cell? (aa h 5)=some (ii ve)) c5 fun hA=>?_;refine tkv4 0 2 3 5 (jp h) (sc p cs.length M) (ii (cs.length:Int)) (jp h) hA ?_;simp only [Act.put,sz];refine tkv3 6 7 8 (jp h) (.pointer (some (aa h 5))) (ii ve) hA ?_;simp only [Act.put,sz];refine tkc 1 fun K I=>?_
  go_simp
  refine (ag.o 1).mono ?_;rintro e1 r ⟨rfl,X⟩;have E:Bw W r:=zA (zG (zaR W.heap.size W) 1) (by simp) X;obtain ⟨d0,d1,d2,d5⟩:=aj.o r E;have H:=hid E;go_wp2_with fail;have av:IntKind.i64.wrap ((cn:Int)+(cs.length:Int))=(cn:Int)+(cs.length:Int):=by rw [xam];omega
  refine I.out _ _ d5 (fun hA=>?_)
  try simp only [Act.put,sz]
  refine tkv2 4 9 (ii ((cn:Int)+(cs.length:Int))) (.bool false) hA ?_;simp only [Act.put,sz];refine tkd ?_;have ac:=hid (Y.o r H.o);have ah:=hid (af.o r H.o);go_wp2_with fail;refine ah.o.mono ?_;rintro e2 y ⟨rfl,rfl⟩;go_wp2_with fail
  go_ret2
  exact ac.o
 have af:Hid (∀d,Bw W d->CC 112 #[jp s.hs] d fun e y=>e=.returned (.tuple #[iu (s.last+1),ii 0])/\y=d.setCell (aa s.hs 0) (iu (s.last+1))):=fun d g=>(aw.o d g).mono fun e y q=>by
  rcases q with ⟨q,_⟩|⟨_,q⟩
  ·omega
  exact q
 have HR:Hid (wrR s (cs.map Cx.ch)=((s.last+1,0),{ s with last:=s.last+1,nv:=s.nv+cs.length,D:=yV s.D (cs.map Cx.ch) (s.last+1) s.tick })):=by
  show _=_
  unfold wrR;rw [xag am,xag (by grind),xag hsp,zaM]
 obtain ⟨t,Q⟩:∃t:Nat->World->Prop,(fun i w=>∃A,zS n0 w { s with last:=s.last+1,nv:=s.nv+i,D:=yV s.D ((cs.map Cx.ch).take i) (s.last+1) s.tick } A/\(∀k,k<W.heap.size->A k=c k)/\Fr (fun k=>c k=2∨c k=5) W w)=t:=⟨_,rfl⟩
 have ba:Hid (∀d,Bw W d->t 0 (d.setCell (aa s.hs 0) (iu (s.last+1)))):=fun d g=>by
  rw [<-Q];obtain ⟨l,B⟩:=(L.o.on g).cntT (s.last+1);exact ⟨c,l,fun _ _=>rfl,Fr.then (Fr.of_below g) B fun k u=>xac (xaf u)⟩
 have bp:Hid (∀i w d,t i w->Bw w d->t i d):=fun i w d j g=>by
  rw [<-Q] at j ⊢;obtain ⟨A,l,B,C⟩:=j;exact ⟨A,l.on g,B,C.then (Fr.of_below (P:=fun _=>False) g) fun _ k=>k.elim⟩
 have ae:Hid (∀i w,t i w->zAD w s.hc s.tick/\w.cell? (aa s.h 0)=some (jp s.hd)/\w.cell? (aa s.h 2)=some (jp s.hc)/\Fr (fun k=>c k=2∨c k=5) W w/\W.heap.size<=w.heap.size):=fun i w j=>by
  rw [<-Q] at j;obtain ⟨A,l,B,C⟩:=j;obtain ⟨e0,_,e2,_⟩:=l.cells;exact ⟨l.clk.1,e0,e2,C,C.size⟩
 have cb:Hid (∀k,W.heap.size<=k->c k=0):=L.o.out;have ca:Hid (s.h<W.heap.size/\c s.h=1):=⟨L.o.lt,L.o.obj.2.2⟩
 have bm:Hid (∀(i:Nat) (hi:i<cs.length) (wr w:World),t i wr->Bw wr w->wH w (sc (cs[i]).ip (cs[i]).io.length (cs[i]).ic) (cs[i]).io->CC 114 #[jp s.hd,.agg #[tq (cs[i]).a,tq (cs[i]).b],iu (s.last+1),ii s.tick,.bool (cs[i]).il,sc (cs[i]).ip (cs[i]).io.length (cs[i]).ic] w fun e d=>∃a b,e=.returned (.tuple #[ii a,ii b])/\t (i+1) d/\∀k,wr.heap.size<=k->k<w.heap.size->d.heap[k]? = w.heap[k]?):=fun i hi wr w j g hv=>by
  rw [<-Q] at j;obtain ⟨A,J,B,C⟩:=j;have l:=J.on g;obtain ⟨m,G,hM,hB⟩:=l.dir;refine (zN4 hM (by show s.nv+i<_;omega) l.base ((cs[i]).a,(cs[i]).b) (bc _ (zaN hi)) (s.last+1) s.tick (cs[i]).il _ (cs[i]).io _ hv (al _ (zaN hi)).ifit rfl (by omega)).mono ?_;rintro e d ⟨rfl,ht⟩;obtain ⟨c2,r1,r2,r3⟩:=l.dirT hM hB ht;refine ⟨_,_,rfl,?_,fun k bo bb=>r3.block k bb (by show ¬ A k=2;rw [J.out k bo];decide)⟩;rw [<-Q]
  have e1:(cs.map Cx.ch).take (i+1)=(cs.map Cx.ch).take i++[(cs[i]).ch]:=by
   rw [zaK (by grind),xa4]
  refine ⟨c2,?_,fun k u=>(r2 k (zaT u (zaU C.size g.size))).trans (B k u),(C.then (Fr.of_below (P:=fun _=>False) g) fun _ k=>k.elim).then r3 fun k u=>?_⟩
  ·rw [e1,zG7];exact r1
  grind
 have be:Hid (∀i w,t i w->KCx.Own N w (sc p cs.length M) cs/\∀z∈cs,vS N w z):=fun i w j=>by
  obtain ⟨_,_,_,f,_⟩:=ae.o i w j;have aq:∀k,N<=k->¬ (c k=2∨c k=5):=fun k u=>by grind
  refine ⟨f.row (show W.ownsRow N KCx.T KCx.k (sc p cs.length M) cs.length (KCx.cells cs) from ai) fun k u=>aq k (zaW (show W.ownsRow N KCx.T KCx.k (sc p cs.length M) cs.length (KCx.cells cs) from ai) k u).1,fun z hz=>(al z hz).fr f fun k u=>aq k ((al z hz).blk k u).1⟩
 have bq:Hid (∀w,t cs.length w->cW n0 W c (wrR s (cs.map Cx.ch)) (.returned (.tuple #[iu (s.last+1),ii 0])) w):=fun w j=>by
  rw [HR.o];rw [<-Q] at j;obtain ⟨A,l,B,C⟩:=j;rw [xaj (by grind)] at l;exact ⟨rfl,A,l,B,C⟩
 have bv:s.last+1<=18446744073709551615:=by unfold tD at *;omega
 generalize wrR s (cs.map Cx.ch)=R at *
 generalize s.last+1=NL at *
 generalize s.h=h at *
 generalize s.hs=j at *
 generalize s.hc=hc at *
 generalize s.hd=hd at *
 generalize s.tick=tick at *
 generalize s.vers=ve at *
 generalize zT s.D=cn at *
 go_enter func65,ntmps65
 go_upto_region 3 with fail
 refine tkb (S:=fun d=>d.cell? (aa h 5)=some (ii ve)) c5 fun hA=>?_;refine tkv4 0 2 3 5 (jp h) (sc p cs.length M) (ii (cs.length:Int)) (jp h) hA ?_;simp only [Act.put,sz];refine tkv3 6 7 8 (jp h) (.pointer (some (aa h 5))) (ii ve) hA ?_;simp only [Act.put,sz];refine tkc 1 fun K I=>?_
 go_simp
 refine (ag.o 1).mono ?_;rintro e1 r ⟨rfl,X⟩;have E:Bw W r:=zA (zG (zaR W.heap.size W) 1) (by simp) X;obtain ⟨d0,d1,d2,d5⟩:=aj.o r E;have H:=hid E;go_wp2_with fail;have av:IntKind.i64.wrap ((cn:Int)+(cs.length:Int))=(cn:Int)+(cs.length:Int):=by rw [xam];omega
 refine I.out _ _ d5 (fun hA=>?_)
 try simp only [Act.put,sz]
 refine tkv2 4 9 (ii ((cn:Int)+(cs.length:Int))) (.bool false) hA ?_;simp only [Act.put,sz];refine tkd ?_;have ah:=hid (af.o r H.o);have ar:=hid (ba.o r H.o);go_wp2_with fail;refine ah.o.mono ?_;rintro e2 y ⟨rfl,rfl⟩;obtain ⟨y,hw2⟩:=eE (r.setCell (aa j 0) (iu NL));rw [hw2] at ar;(try rw [hw2]);obtain ⟨k1,_,k3,_⟩:=ae.o 0 y ar.o;have bj:=hid (zMj k1);go_wp2_with fail;refine bj.o.mono ?_;rintro e3 w3 ⟨rfl,rfl⟩;go_wp2_with fail
 go_loopg [44] cs.length (fun gg vi wr=>∃(i:Nat),vi=ii i/\i<=cs.length/\cs.length-i<=gg/\Hid (t i wr))
 case atStart=>grind
 obtain ⟨i,rfl,hi,bz,HI⟩:=hrel
 by_cases hlt:i<cs.length
 ·have bk:(i:Int)<(cs.length:Int):=by omega
  have bu:(0:Int)<=i:=by omega
  obtain ⟨ho,bd⟩:=be.o i wr HI.o
  obtain ⟨b1,o1,rfl,k1⟩:∃b off,p=some (aa b off)/\KCx.At wr b off cs:=by
   obtain ⟨p',A,he,hq⟩:=zC.own_is ho
   grind
  obtain ⟨y0,y1,y2,y3,y4,y5⟩:=zJM k1 i hlt;have hz:=bd _ (zaN hlt);have bn:=hid hz.inn.is;have br:Hid (∀w,Bw wr w->wH w (sc (cs[i]).ip (cs[i]).io.length (cs[i]).ic) (cs[i]).io->CC 114 #[jp hd,.agg #[tq (cs[i]).a,tq (cs[i]).b],iu NL,ii tick,.bool (cs[i]).il,sc (cs[i]).ip (cs[i]).io.length (cs[i]).ic] w fun e d=>∃a b,e=.returned (.tuple #[ii a,ii b])/\t (i+1) d/\∀k,wr.heap.size<=k->k<w.heap.size->d.heap[k]? = w.heap[k]?):=fun w g hv=>bm.o i hlt wr w HI.o g hv
  generalize cs[i]=z at *
  obtain ⟨za,zb,ay,ap,ao,au,ab,U,Z,ad⟩:=z;simp only at *;obtain ⟨O,hO⟩:=eE wr.heap.size;obtain ⟨V0,hV0⟩:=eE (wr.alloc (.cells #[tq ⟨#[]⟩,tq ⟨#[]⟩,.bool false,sc none 0 0,.bool false,sc none 0 0] 67));have F:V0.heap[O]? = some (oc #[tq ⟨#[]⟩,tq ⟨#[]⟩,.bool false,sc none 0 0,.bool false,sc none 0 0] 67):=by rw [<-hV0,<-hO];exact xab wr _
  obtain ⟨V,hV⟩:=eE (((((((V0.setCell (aa O 0) (tq za)).setCell (aa O 1) (tq zb)).setCell (aa O 2) (.bool ay)).setCell (aa O 3) (sc ap au.length ao)).setCell (aa O 4) (.bool ab)).setCell (aa O 5) (sc U ad.length Z)));obtain ⟨hvo,fo⟩:=zJf F ⟨za,zb,ay,ap,ao,au,ab,U,Z,ad⟩ V hV
  have ak:Bw wr V:=by
   have J:Bw wr V0:=by rw [<-hV0];exact zaQ
   exact J.trans (fo.below J.size fun k u=>by omega)
  have z0:V0.cell? (aa O 0)=some (tq ⟨#[]⟩):=cz F;have z1:V0.cell? (aa O 1)=some (tq ⟨#[]⟩):=cz F;have z2:V0.cell? (aa O 2)=some (.bool false):=cz F;have z3:V0.cell? (aa O 3)=some (sc none 0 0):=cz F;have z4:V0.cell? (aa O 4)=some (.bool false):=cz F;have z5:V0.cell? (aa O 5)=some (sc none 0 0):=cz F;have u0:=zaF F
  have ax:Hid (∀d:World,d.heap[O]? = V.heap[O]?->d.cell? (aa O 0)=some (tq za)/\d.cell? (aa O 1)=some (tq zb)/\d.cell? (aa O 4)=some (.bool ab)/\d.cell? (aa O 5)=some (sc U ad.length Z)):=fun d e=>by
   have q:=e.trans hvo;refine ⟨?_,?_,?_,?_⟩<;>rw [zaC q]<;>rfl
  obtain ⟨_,m0,_,_,_⟩:=ae.o i V (bp.o i wr V HI.o ak);obtain ⟨t0,t1,t4,t5⟩:=ax.o V rfl;have an:Hid (wr.heap.size<=O/\O<V.heap.size):=⟨by omega,(gA hvo).1⟩;have bi:=hid fun n=>br.o (V.drewN n) (zG ak n) (bn.o.kept (zG ak n))
  go_upto_region 12 with fail
  (try rw [hO]);(try rw [hV0]);(try rw [hV]);refine tkb (S:=fun d=>d.cell? (aa O 0)=some (tq za)/\d.cell? (aa O 1)=some (tq zb)/\d.cell? (aa O 4)=some (.bool ab)/\d.cell? (aa O 5)=some (sc U ad.length Z)/\d.cell? (aa h 0)=some (jp hd)) ⟨t0,t1,t4,t5,m0⟩ fun hA=>?_;refine tkv4 0 1 2 3 (jp h) (jp h) (jp h) (jp h) hA ?_;simp only [Act.put,sz];refine tkv4 4 5 6 7 (jp hd) (jp O) (.agg #[tq za,tq zb]) (iu NL) hA ?_;simp only [Act.put,sz];refine tkv3 8 9 10 (ii tick) (.pointer (some (aa O 4))) (.bool ab) hA ?_;simp only [Act.put,sz];refine tkv2 11 12 (.pointer (some (aa O 5))) (sc U ad.length Z) hA ?_;simp only [Act.put,sz];refine tkc 13 fun K I=>?_
  go_simp
  refine (bi.o 1).mono ?_;rintro e4 w4 ⟨ra,rb,rfl,az,bl⟩;obtain ⟨t0,t1,t4,t5⟩:=ax.o w4 (bl O an.o.1 an.o.2);obtain ⟨_,m0,_,_,_⟩:=ae.o (i+1) w4 az;have bx:=hid az;go_wp2_with fail;refine I.out _ _ (⟨t0,t1,t4,t5,m0⟩) (fun hA=>?_)
  try simp only [Act.put,sz]
  refine tkd ?_;go_wp2_with fail;go_roundg (cs.length-(i+1))
  case measure=>omega
  grind
 have bk:¬ (i:Int)<(cs.length:Int):=by omega
 have bf:i=cs.length:=by omega
 have ac:Hid (cW n0 W c R (.returned (.tuple #[iu NL,ii 0])) wr):=bq.o wr (by rw [<-bf];exact HI.o);go_wp2_with fail
 go_ret2
 exact ac.o
def trR (s:Ps) (d:Dn):Ps:=if d.chg=[]/\d.marks=([],[]) then s else { s with tk:=uS (nD s.tk d).2 (yJ s.os s.last) }
def zCr (n0:Nat) (W:World) (c:Nat->Nat) (s':Ps) (e:Ending) (w':World):Prop:=e=.returned (.tuple #[])/\∃c',zS n0 w' s' c'/\(∀k,k<W.heap.size->c' k=c k)/\Fr (fun k=>c k=3) W w'
theorem zIs {n0:Nat} {W:World} {s:Ps} {c:Nat->Nat} (x:zS n0 W s c) (bw:0<=s.last/\s.last<=18446744073709551615) (bs:s.os.length<40000000000000) (d:Dx) (F:DIn W d):CC 66 #[.pointer (some ⟨s.h,0,none⟩),.agg (yN d).toArray] W fun e i=>zCr n0 W c (trR s ⟨d.snap,s.last,d.out,d.m.mk',d.cs.map Cx.ch⟩) e i:=by
 obtain ⟨V,T⟩:=eE (W.alloc (.cells (yN d).toArray 131));obtain ⟨Q,hQ⟩:=eE W.heap.size;have h1:V.heap[Q]? = some (oc (yN d).toArray 131):=by rw [<-T,<-hQ];exact xab W _
 have R:Bw W V:=by rw [<-T];exact zaQ
 have br:V.heap.size=Q+1:=by rw [<-T,<-hQ];simp
 obtain ⟨C,ah⟩:=eE (V.alloc (.cells #[.pointer none,.pointer none,.pointer none,.pointer none,.pointer none] 97));obtain ⟨M,hM⟩:=eE V.heap.size;have I:C.heap[M]? = some (oc #[.pointer none,.pointer none,.pointer none,.pointer none,.pointer none] 97):=by rw [<-ah,<-hM];exact xab V _
 have X:Bw V C:=by rw [<-ah];exact zaQ
 have HX:=hid x;obtain ⟨c0,c1,r,c3,w,_⟩:=(x.on R).cells;obtain ⟨c0',c1',c2',c3',c4',_⟩:=((x.on R).on X).cells;have ba:Hid (∀i,Bw W i->CC 39 #[jp s.hs] i fun e a=>e=.returned (iu s.last)/\a=i):=fun i G=>fP (x.on G).cnt.1
 have ad:=F.sz;have l1:=ad.keys;have l2:=ad.rows;have l3:=ad.chg
 have bm:Hid (∀i,Bw W i->CC 115 #[jp s.ht,.agg (yN { d with stamp:=s.last }).toArray] i fun e a=>∃z,e=.returned (ii z)/\(∃f,zS n0 a { s with tk:=(nD s.tk ⟨d.snap,s.last,d.out,d.m.mk',d.cs.map Cx.ch⟩).2 } f/\(∀k,k<i.heap.size->f k=c k)/\Fr (fun k=>c k=3) i a)):=fun i G=>by
  obtain ⟨B,hT,hB⟩:=(x.on G).trk;obtain ⟨ds,va,last,h,rfl⟩:=hT;refine (zOF h (x.on G).base { d with stamp:=s.last } ⟨F.mrk.on G,F.chg.on G,F.sz,F.snap,bw⟩).mono fun e a q=>⟨_,q.1,?_⟩
  exact (x.on G).trkT ⟨ds,va,last,h,rfl⟩ hB (zE4 q.2)
 have bn:Hid (∀(g:World) (f:Nat->Nat) (t:Tk),zS n0 g { s with tk:=t } f->CC 73 #[uD s.hd s.hs s.hc s.hq s.ht] g fun e i=>e=.returned (iu (yJ s.os s.last))/\Bw g i):=fun g f t y=>by
  obtain ⟨B,hq,_⟩:=y.snp;exact zC0 (n0:=n0) (W:=g) (hs:=s.hs) (hq:=s.hq) (os:=s.os) (fl:=s.floor) (last:=s.last) y.cnt.1 hq bs
 have bg:Hid (∀(g:World) (f:Nat->Nat) (t:Tk),zS n0 g { s with tk:=t } f->CC 116 #[jp s.ht,iu (yJ s.os s.last)] g fun e a=>∃z,e=.returned (ii z)/\(∃r,zS n0 a { s with tk:=uS t (yJ s.os s.last) } r/\(∀k,k<g.heap.size->r k=f k)/\Fr (fun k=>f k=3) g a)):=fun g f t y=>by
  obtain ⟨B,hT,hB⟩:=y.trk;obtain ⟨ds,va,last,h,rfl⟩:=hT;refine (zMC h (yJ s.os s.last)).mono fun e a q=>⟨_,q.1,?_⟩
  exact y.trkT ⟨ds,va,last,h,rfl⟩ hB (zE4 q.2)
 have bz:Hid (∀k,W.heap.size<=k->c k=0):=x.out;have HV:=hid R;have cn:=hid X;have bt:Hid (W.heap.size=Q/\M=Q+1/\V.heap.size=Q+1):=⟨hQ,by omega,br⟩;obtain ⟨v,ac⟩:=eE ((((((C.setCell (aa M 0) (jp s.hd)).setCell (aa M 1) (jp s.hs)).setCell (aa M 2) (jp s.hc)).setCell (aa M 3) (jp s.hq)).setCell (aa M 4) (jp s.ht)))
 have ap:v.heap[M]? = some (oc #[jp s.hd,jp s.hs,jp s.hc,jp s.hq,jp s.ht] 97):=by
  rw [<-ac];exact xaa _ M 4 _ _ _ (xaa _ M 3 _ _ _ (xaa _ M 2 _ _ _ (xaa _ M 1 _ _ _ (xaa _ M 0 _ _ _ I))))
 have bc:Fr (fun b=>b=M) C v:=by
  rw [<-ac];exact ((((zZ C M 0 _).then (zZ _ M 1 _) fun k l=>xac l).then (zZ _ M 2 _) fun k l=>xac l).then (zZ _ M 3 _) fun k l=>xac l).then (zZ _ M 4 _) fun k l=>xac l
 have av:Bw V v:=X.trans (bc.below X.size fun k l=>by omega);have bx:=hid (zA R R.size av);have ai:v.heap[Q]? = some (oc (yN d).toArray 131):=(av.block Q (by omega)).trans h1;have cf:=hid (ba.o v bx.o);obtain ⟨j,U⟩:=eE (v.setCell (aa Q 1) (iu s.last))
 have L:j.heap[Q]? = some (oc (yN { d with stamp:=s.last }).toArray 131):=by
  rw [<-U];exact xaa v Q 1 _ _ _ ai
 have am:j.heap[M]? = some (oc #[jp s.hd,jp s.hs,jp s.hc,jp s.hq,jp s.ht] 97):=by
  rw [<-U,xaC v _ M _ (by grind)];exact ap
 have az:Bw W j:=by
  rw [<-U];exact bx.o.setCell (by grind) _
 have bu:=hid az;have an:Hid (Q<j.heap.size/\M<j.heap.size):=⟨(gA L).1,(gA am).1⟩
 have af:Hid (∀i:World,i.heap[M]? = j.heap[M]?->i.cell? (aa M 0)=some (jp s.hd)/\i.cell? (aa M 1)=some (jp s.hs)/\i.cell? (aa M 2)=some (jp s.hc)/\i.cell? (aa M 3)=some (jp s.hq)/\i.cell? (aa M 4)=some (jp s.ht)):=fun i e=>by
  have q:=e.trans am;refine ⟨?_,?_,?_,?_,?_⟩<;>rw [zaC q]<;>rfl
 have au:=hid (bm.o j az);obtain ⟨Z,ag⟩:∃Z,trR s ⟨d.snap,s.last,d.out,d.m.mk',d.cs.map Cx.ch⟩=Z:=⟨_,rfl⟩;rw [ag]
 have ao:Hid (d.m.ks.length+d.m.rs.length+d.cs.length=0->zCr n0 W c Z (.returned (.tuple #[])) V):=fun h=>by
  have e1:d.m.ks=[]:=xbb (by omega);have Y:d.m.rs=[]:=xbb (by omega);have e3:d.cs=[]:=xbb (by omega)
  have e4:trR s ⟨d.snap,s.last,d.out,d.m.mk',d.cs.map Cx.ch⟩=s:=by
   unfold trR;rw [xae];refine ⟨by rw [e3];rfl,?_⟩;show (d.m.ks,d.m.rs.map Rx.rg)=_;rw [e1,Y];rfl
  rw [<-ag,e4];exact ⟨rfl,c,HX.o.on HV.o,fun _ _=>rfl,Fr.of_below HV.o⟩
 have aq:Hid (¬ d.m.ks.length+d.m.rs.length+d.cs.length=0->∀(a p u:World) (r w:Nat->Nat),(∀k,k<j.heap.size->r k=c k)->Fr (fun k=>c k=3) j a->Bw a p->zS n0 u { s with tk:=uS (nD s.tk ⟨d.snap,s.last,d.out,d.m.mk',d.cs.map Cx.ch⟩).2 (yJ s.os s.last) } w->(∀k,k<p.heap.size->w k=r k)->Fr (fun k=>r k=3) p u->zCr n0 W c Z (.returned (.tuple #[])) u):=fun h a p u r w cl f2 ab y cj f4=>by
  have e4:trR s ⟨d.snap,s.last,d.out,d.m.mk',d.cs.map Cx.ch⟩={ s with tk:=uS (nD s.tk ⟨d.snap,s.last,d.out,d.m.mk',d.cs.map Cx.ch⟩).2 (yJ s.os s.last) }:=by
   unfold trR;rw [xag];rintro ⟨e1,Y⟩;have q1:d.cs.length=0:=by have:=xad List.length e1;simpa using this
   have q2:d.m.ks.length=0:=xad List.length (xad Prod.fst Y);have q3:d.m.rs.length=0:=by have:=xad List.length (xad Prod.snd Y);simpa [Mx.mk'] using this
   omega
  rw [<-ag,e4];have bq:W.heap.size<=j.heap.size:=bu.o.size;refine ⟨rfl,w,y,fun k l=>(cj k (zaT l (zaU bq (zaU f2.size ab.size)))).trans (cl k (zaT l bq)),?_⟩;refine Fr.then (Fr.then (Fr.of_below bu.o) f2 fun k l=>xac l) (Fr.then (Fr.of_below ab) f4 fun k l=>xac l) fun k l=>?_
  grind
 obtain ⟨A,N⟩:∃A:Tk->World->(Nat->Nat)->Prop,(fun t g f=>zS n0 g { s with tk:=t } f)=A:=⟨_,rfl⟩;obtain ⟨T1,hT1⟩:=eE ((nD s.tk ⟨d.snap,s.last,d.out,d.m.mk',d.cs.map Cx.ch⟩).2);rw [hT1] at au aq;have ax:Hid (CC 115 #[jp s.ht,.agg (yN { d with stamp:=s.last }).toArray] j fun e a=>∃z,e=.returned (ii z)/\(∃f,A T1 a f/\(∀k,k<j.heap.size->f k=c k)/\Fr (fun k=>c k=3) j a)):=by rw [<-N];exact au.o
 have bj:Hid (∀t g f a,A t g f->Bw g a->A t a f):=fun t g f a=>by rw [<-N];exact fun q G=>q.on G
 have ay:Hid (∀(g:World) (f:Nat->Nat) (t:Tk),A t g f->CC 73 #[uD s.hd s.hs s.hc s.hq s.ht] g fun e i=>e=.returned (iu (yJ s.os s.last))/\Bw g i):=by rw [<-N];exact bn.o
 have ar:Hid (∀(g:World) (f:Nat->Nat) (t:Tk),A t g f->CC 116 #[jp s.ht,iu (yJ s.os s.last)] g fun e a=>∃z,e=.returned (ii z)/\(∃r,A (uS t (yJ s.os s.last)) a r/\(∀k,k<g.heap.size->r k=f k)/\Fr (fun k=>f k=3) g a)):=by rw [<-N];exact bg.o
 have aw:Hid (¬ d.m.ks.length+d.m.rs.length+d.cs.length=0->∀(a p u:World) (r w:Nat->Nat),(∀k,k<j.heap.size->r k=c k)->Fr (fun k=>c k=3) j a->Bw a p->A (uS T1 (yJ s.os s.last)) u w->(∀k,k<p.heap.size->w k=r k)->Fr (fun k=>r k=3) p u->zCr n0 W c Z (.returned (.tuple #[])) u):=by rw [<-N];exact aq.o
 have cq:Hid (∀g f t k,A t g f->g.heap.size<=k->f k=0):=fun g f t k=>by rw [<-N];exact fun q l=>q.out k l
 clear x F ad bw bs N hT1 bm bn bg ba au aq ag HX;obtain ⟨sn,st,ou,⟨bp,bv,E,bf,bd,D⟩,cp,cc,J⟩:=d
 generalize s.last=LA at *
 generalize yJ s.os LA=LE at *
 generalize s.h=h at *
 generalize s.hd=F at *
 generalize s.hs=hs at *
 generalize s.hc=hc at *
 generalize s.hq=hq at *
 generalize s.ht=ht at *
 unfold uD at *;simp only [yN,Mx.ksl,Mx.rsl,Dx.csl] at *;have y0:C.cell? (aa M 0)=some (.pointer none):=cz I;have y1:C.cell? (aa M 1)=some (.pointer none):=cz I;have y2:C.cell? (aa M 2)=some (.pointer none):=cz I;have y3:C.cell? (aa M 3)=some (.pointer none):=cz I;have y4:C.cell? (aa M 4)=some (.pointer none):=cz I;have z0:=zaF I;have k3:V.cell? (aa Q 3)=some (sc bp E.length bv):=cz h1;have k4:V.cell? (aa Q 4)=some (sc bf D.length bd):=cz h1;have k5:V.cell? (aa Q 5)=some (sc cp J.length cc):=cz h1;have v1:v.cell? (aa M 1)=some (jp hs):=cz ap;have q1:v.cell? (aa Q 1)=some (iu st):=cz ai;have qf:v.frozen? (aa Q 1)=false:=zaF ai 1;have r0:j.cell? (aa Q 0)=some (iu sn):=cz L;have r1:j.cell? (aa Q 1)=some (iu LA):=cz L;have r2:j.cell? (aa Q 2)=some (.bool ou):=cz L;have r3:j.cell? (aa Q 3)=some (sc bp E.length bv):=cz L;have r4:j.cell? (aa Q 4)=some (sc bf D.length bd):=cz L;have r5:j.cell? (aa Q 5)=some (sc cp J.length cc):=cz L;have cd:IntKind.i64.wrap ((E.length:Int)+(D.length:Int))=(E.length:Int)+(D.length:Int):=by rw [xam];omega
 have cg:IntKind.i64.wrap ((E.length:Int)+(D.length:Int)+(J.length:Int))=(E.length:Int)+(D.length:Int)+(J.length:Int):=by rw [xam];omega
 clear h1 I ai L ap R X bc av az am br
 by_cases hno:E.length+D.length+J.length=0
 ·have hz:(E.length:Int)+(D.length:Int)+(J.length:Int)=0:=by omega
  have ae:=hid (ao.o hno);clear ao aw ar ay ax hno;go_enter func66,ntmps66;go_upto_region 1 with fail
  (try rw [T]);(try rw [hQ]);go_wp2_with fail
  go_end0
  exact ae.o
 have hz:¬ (E.length:Int)+(D.length:Int)+(J.length:Int)=0:=by omega
 have cr:((E.length:Int)+(D.length:Int)+(J.length:Int)==0)=false:=by simpa using hz
 have ae:=hid (aw.o hno);clear ao aw hno;obtain ⟨m0,m1,m2,m3,m4⟩:=af.o j rfl;go_enter func66,ntmps66;go_upto_region 1 with fail
 (try rw [T]);(try rw [hQ]);go_upto_region 3 with fail
 (try rw [hM]);(try rw [ah]);(try rw [ac]);go_wp2_with fail;refine cf.o.mono ?_;rintro e1 g ⟨rfl,rfl⟩;go_upto_region 4 with fail
 (try rw [U]);go_wp2_with fail;refine ax.o.mono ?_;rintro Y a ⟨zz,rfl,f,P,O,H⟩;have al:a.heap[M]? = j.heap[M]?:=H.block M an.o.2 (by show ¬ c M=3;rw [bz.o M (by have:=bt.o;omega)];decide);have bh:=af.o a al;have ak:Hid (a.heap[M]? = j.heap[M]?/\M<a.heap.size):=⟨al,zaT an.o.2 H.size⟩;have ci:=hid P;have ca:=hid O;have ck:=hid H;have bi:=hid fun n=>ay.o (a.drewN n) f T1 (bj.o T1 a f _ P (zG (zaR a.heap.size a) n))
 have cb:Hid (f M=0):=by
  show f M=0
  rw [O M an.o.2];exact bz.o M (by have:=bt.o;omega)
 clear k3 k4 k5 P O H al ax ay m0 m1 m2 m3 m4 r0 r1 r2 r3 r4 r5 y0 y1 y2 y3 y4 z0 v1 q1 qf c0 c1 r c3 w c0' c1' c2' c3' c4' cd cg U ac ah T;go_upto_region 5 with fail
 refine tkb (S:=fun i=>i.cell? (aa M 0)=some (jp F)/\i.cell? (aa M 1)=some (jp hs)/\i.cell? (aa M 2)=some (jp hc)/\i.cell? (aa M 3)=some (jp hq)/\i.cell? (aa M 4)=some (jp ht)) bh fun hA=>?_;refine tkv3 0 1 2 (.pointer (some (aa M 4))) (jp ht) (.agg #[jp F,jp hs,jp hc,jp hq,jp ht]) hA ?_;simp only [Act.put,sz];clear hA bh;refine tkc 3 fun K hK=>?_
 go_simp
 refine (bi.o 1).mono ?_;rintro e3 p ⟨rfl,ab⟩;have hb3':Bw a p:=zA (zG (zaR a.heap.size a) 1) (by simp) ab;have aj:p.heap[M]? = j.heap[M]?:=(hb3'.block M ak.o.2).trans ak.o.1;have bl:=af.o p aj;have bo:Hid (p.heap[M]? = j.heap[M]?/\M<p.heap.size):=⟨aj,zaT ak.o.2 hb3'.size⟩;have cm:=hid hb3';have bb:=hid (ar.o p f T1 (bj.o T1 a f p ci.o hb3'));clear ab hb3' aj bi ar;go_wp2_with fail;refine hK.out _ _ bl (fun hA=>?_);clear hK K
 try simp only [Act.put,sz]
 clear hA bl;refine tkc 4 fun K hK=>?_
 go_simp
 refine bb.o.mono ?_;rintro e4 u ⟨co,rfl,w,P,O,H⟩;have be:u.heap[M]? = j.heap[M]?:=(H.block M bo.o.2 (by show ¬ f M=3;rw [cb.o];decide)).trans bo.o.1;have bk:=af.o u be;have ce:=hid (ae.o a p u f w ca.o ck.o cm.o P O H);clear P O H be ae bb;go_wp2_with fail;refine hK.out _ _ bk (fun hA=>?_);clear hK K
 try simp only [Act.put,sz]
 refine tkd ?_;clear bk;go_wp2_with fail
 go_end0
 exact ce.o
section
open Go.RowKit Go.Lib
section
variable {T:TypeId} {w X u:World} {b B:Nat} {zs:Array Value}
theorem zJp (b:Nat) {T:TypeId}:∀(d:List Value) (o:Nat) (w:World) (cs:Array Value),w.heap[b]? = some (.cells cs T (0,0))->o+d.length<=cs.size ->
  ∃c:Array Value,(w.setCells b o d).heap[b]? = some (.cells c T (0,0))/\c.size=cs.size/\(∀j,j<o->c[j]? = cs[j]?)/\∀j,j<d.length->c[o+j]? = d[j]?
 | [],o,w,cs,h,_=>⟨cs,h,rfl,fun _ _=>rfl,fun j hj=>by simp at hj⟩
 | v::r,o,w,cs,h,hl=>by
  have f:(w.setCell ⟨b,o,none⟩ v).heap[b]? = some (.cells (cs.setIfInBounds o v) T (0,0)):=xaa w b o _ _ v h;simp only [xa3] at hl;obtain ⟨c,g,e,i,k⟩:=zJp b r (o+1) _ _ f (by grind);rw [Array.size_setIfInBounds] at e;refine ⟨c,g,e,fun j hj=>?_,fun j hj=>?_⟩<;>grind
theorem zDx (b:Nat):∀(e:List Value) (o:Nat) (w:World),Fr (fun k=>k=b) w (w.setCells b o e)
 | [],_,w=>Fr.refl _ w
 | v::r,o,w=>by
  have h:Fr (fun k=>k=b) w (w.setCell ⟨b,o,none⟩ v):=⟨rfl,rfl,rfl,by simp,fun k _ d=>xaC _ _ k _ d⟩;exact h.then (zDx b r (o+1) _) fun k c=>xac c
theorem tH {W:World} {cs:Array Value} {c:List Value} (h:w.heap[b]? = some (.cells cs T (0,0))) (f:c.length=cs.size) (i:w.setCells b 0 c=W):W.heap[b]? = some (.cells c.toArray T (0,0))/\Fr (fun k=>k=b) w W:=by
 subst i;refine ⟨?_,zDx b c 0 w⟩;obtain ⟨j,d,g,_,l⟩:=zJp b c 0 w cs h (by omega)
 have e:j=c.toArray:=by
  apply Array.ext
  ·simp [g,f]
  grind
 rw [d,e]
theorem xQ {cs:List Value} (h:w.heap[b]? = some (.cells cs.toArray T (0,0))):w.rangeAt b 0 cs/\w.there b 0 cs.length:=by
 refine ⟨fun j v c=>?_,fun j hj=>⟨?_,zaF h _⟩⟩
 ·rw [xaJ,zaC h]
  grind
 rw [xaJ,zaC h];simp [hj]
section
variable {P:Program} {ops:Array Oper} {rest:List Oper} {op:Oper} {a:Act} {w:World} {Q:Exit→Act→World→Prop}
theorem yX (e:op.guard=none) (c:TypeId) (x:Operand) (f:op.op=.load c x) (b o:Nat) (g:a.eval x=.pointer (some ⟨b,o,none⟩)) (cs:List Value) (d:TypeDesc) (i:w.rangeAt b o cs)
  (hu:P.underlying c=some d) (hd:d.isRow=true) (hi:(P.info? c).map (·.size)=some cs.length) (v:Value) (hv:v=.agg cs.toArray)
  (h:wpList P ops Q rest (a.put op.dst v) w):wpList P ops Q (op::rest) a w:=by grind [wpList_load_mid]
theorem zJ (e:op.guard=none) (d:TypeId) (x y:Operand) (f:op.op=.store d x y) (b o:Nat) (c:Array Value) (g:a.eval x=.pointer (some ⟨b,o,none⟩)) (i:a.eval y=.agg c)
  (ht:w.there b o c.size) (hi:(P.info? d).map (·.size)=some c.size) (h1:c.all (·.oneCell')=true) (W:World) (hW:w.setCells b o c.toList=W)
  (h:wpList P ops Q rest (a.put op.dst undef) W):wpList P ops Q (op::rest) a w:=by grind [wpList_store_mid]
end
structure BxM (T:TypeId) (zs:Array Value) (X:World) (B:Nat) (u:World):Prop where
 box:u.heap[B]? = some (.cells zs T (0,0))
 base:X.heap.size<=B
 bel:Below X.heap.size X u
theorem BxM.lt (h:BxM T zs X B u):B<u.heap.size:=(Array.getElem?_eq_some_iff.1 h.box).1
theorem BxM.made {c:World} (d:Below X.heap.size X c):∃B u,Hid (c.heap.size=B/\c.alloc (.cells zs T)=u)/\Hid (BxM T zs X B u):=⟨_,_,hid ⟨rfl,rfl⟩,hid ⟨xab c _,d.size,zA d d.size (zaQ)⟩⟩
theorem BxM.on {d:World} (h:BxM T zs X B u) (c:Below u.heap.size u d):BxM T zs X B d:=⟨(c.block B h.lt).trans h.box,h.base,zA h.bel h.bel.size c⟩
theorem BxM.put (h:BxM T zs X B u) (cs:List Value) (d:cs.length=zs.size):Hid (u.there B 0 cs.toArray.size)/\∃W4,Hid (u.setCells B 0 cs.toArray.toList=W4)/\Hid (W4.heap[B]? = some (.cells cs.toArray T (0,0))/\Fr (fun b=>b=B) u W4/\Below X.heap.size X W4):=by
 obtain ⟨i,c⟩:=tH (W:=u.setCells B 0 cs) h.box d rfl;have f:=(xQ (cs:=zs.toList) h.box).2;have e:zs.toList.length=cs.toArray.size:=by rw [xaB,<-d];rfl
 rw [e] at f;exact ⟨hid f,_,hid rfl,hid ⟨i,c,h.bel.trans (c.below h.bel.size fun k g=>by rw [g];exact h.base)⟩⟩
end
end
section
variable {cs:List Cx} {nr cc X:Nat} {V u u':World} {CH:List Ch} {cp:Option Addr}
def zAy (W:World) (snap:Int) (m:Mx) (ch:List Ch) (la:Bool) (ck:Bool × Int) (e:Ending) (w':World):Prop:=∃d:Dx,e=.returned (.tuple #[.agg (yN d).toArray,.int .i64 (if la then 11 else ck.2)])/\(la=false->d.snap=snap/\d.stamp=0/\d.out=ck.1/\d.m=m/\d.cs.map Cx.ch=ch/\KCx.Own W.heap.size w' d.csl d.cs/\∀z∈d.cs,vS W.heap.size w' z)/\Below W.heap.size W w'
theorem zKC {m:Mx} (l:nr<=1300000000000) (n:m.ks.length<=nr) (j:m.rs.length<=nr) (f:∀k∈m.ks,yE k) (i:bV m.mk') (o:cs.length<=nr) (g:∀c∈cs,xO c.wo/\xO c.io) (d:∀c∈cs,yE (c.a,c.b)):SzD m cs:=⟨by omega,by omega,fun r h=>by have:=i.2.2 r.rg (xaI h);have e:r.rg.2=r.tm:=rfl;grind,by omega,g,f,d⟩
theorem zHb {w:World} {Q:Nat} {d:Dx} {P:World->Prop} (a:w.heap[Q]? = some (.cells #[.int .u64 0,.int .u64 0,.bool false,.slice none 0 0,.slice none 0 0,.slice none 0 0] 131 (0,0))) (e:∀W4,Fr (fun b=>b=Q) w W4->P W4):Hid (w.there Q 0 (yN d).toArray.size)/\∃W4,Hid (w.setCells Q 0 (yN d).toArray.toList=W4/\P W4)/\W4.cell? ⟨Q,0,none⟩=some (.int .u64 d.snap)/\W4.cell? ⟨Q,1,none⟩=some (.int .u64 d.stamp)/\W4.cell? ⟨Q,2,none⟩=some (.bool d.out)/\W4.cell? ⟨Q,3,none⟩=some d.m.ksl/\W4.cell? ⟨Q,4,none⟩=some d.m.rsl/\W4.cell? ⟨Q,5,none⟩=some d.csl:=by
 have c:(yN d).length=(#[iu 0,iu 0,.bool false,sc none 0 0,sc none 0 0,sc none 0 0]:Array Value).size:=by rfl
 obtain ⟨g,f⟩:=tH a c rfl;refine ⟨hid (xQ (cs:=[iu 0,iu 0,.bool false,sc none 0 0,sc none 0 0,sc none 0 0]) a).2,_,hid ⟨rfl,e _ f⟩,?_,?_,?_,?_,?_,?_⟩<;>(rw [zaC g];rfl)
theorem Tryz.doneSize:(prog.info? 131).map (·.size)=some 6:=by kernel_rfl
theorem zCZ (d:Dx):(yN d).toArray.all (·.oneCell')=true:=xbF (KDx.one d)
def CkD (V:World) (CH:List Ch) (cp:Option Addr) (cc:Nat) (cs:List Cx) (X:Nat) (u:World):Prop:=KCx.Own V.heap.size u (.slice cp cs.length cc) cs/\(∀z∈cs,vS V.heap.size u z)/\cs.map Cx.ch=CH/\∀k,((Value.slice cp cs.length cc).ownBlock=some k∨∃z∈cs,sC z k)->¬ k=X
theorem zKP {V u a:World} {CH:List Ch} {cp:Option Addr} {cc:Nat} {cs:List Cx} (f:V.heap.size<=u.heap.size) (d:KCx.Own u.heap.size a (.slice cp cs.length cc) cs) (c:∀z∈cs,vS u.heap.size a z) (h:cs.map Cx.ch=CH) {X:Nat} (i:X<u.heap.size∨a.heap.size<=X):CkD V CH cp cc cs X a:=⟨zC.own_weak d f,fun z b=>(c z b).weak f,h,fun k g e=>by
  have q:u.heap.size<=k/\k<a.heap.size:=g.elim (fun q=>zaW (show a.ownsRow u.heap.size KCx.T KCx.k (sc cp cs.length cc) cs.length (KCx.cells cs) from d) k q) fun ⟨z,b,q⟩=>(c z b).blk k q
  omega⟩
theorem CkD.on (h:CkD V CH cp cc cs X u) (a:Below u.heap.size u u'):CkD V CH cp cc cs X u':=⟨zC.own_on h.1 a,fun z b=>(h.2.1 z b).on a,h.2.2⟩
theorem CkD.put (h:CkD V CH cp cc cs X u) (f:Fr (fun b=>b=X) u u'):CkD V CH cp cc cs X u':=⟨f.row (show u.ownsRow V.z KCx.T KCx.k (sc cp cs.length cc) cs.length (KCx.cells cs) from h.1) fun k a=>h.2.2.2 k (xac a),fun z c=>(h.2.1 z c).fr f fun k a=>h.2.2.2 k (xaf ⟨z,c,a⟩),h.2.2⟩
theorem zFO {n0:Nat} {W:World} {s:Ps} {c:Nat->Nat} (x:zS n0 W s c) (f:xF nr s) (hn:nr<=1300000000000) {i:Nat} {y:Px} (hy:s.xs[i]? = some y) (Z:y.ended=false):CC 64 #[.pointer (some ⟨y.g,0,none⟩)] W fun e l=>zAy W y.snap y.m (zD s.D y.tx) ((zD s.D y.tx).any (tA s.D y.snap)) (yP s.tk y.snap y.m.mk' (zD s.D y.tx)) e l:=by
 obtain ⟨V,hV⟩:=eE (W.alloc (.cells #[iu 0,iu 0,.bool false,sc none 0 0,sc none 0 0,sc none 0 0] 131));obtain ⟨Q,hQ⟩:=eE W.heap.size;have h1:V.heap[Q]? = some (oc #[iu 0,iu 0,.bool false,sc none 0 0,sc none 0 0,sc none 0 0] 131):=by rw [<-hV,<-hQ];exact xab W _
 have al:Bw W V:=by rw [<-hV];exact zaQ
 have cl:V.heap.size=Q+1:=by rw [<-hV,<-hQ];simp
 have xv:=x.on al;have xa:=xv.xat hy Z;obtain ⟨B,hw,hB⟩:=xv.wrt hy Z;have ck:=f.lod hy Z;have bz:OkX s.D s.floor s.last y.tx:=f.okw hy;have ap:OkW y.L:=bz.wr;have bm:=hid (zEc hw (by omega))
 have ba:∀k∈xH y.L,yO k:=fun k H=>by
  unfold xH at H;obtain ⟨r,hr,rfl⟩:=List.mem_map.1 H;exact key_fit (ap.key r hr)
 have bt:Hid ((xH y.L).any (fun k=>decide (y.snap<(yF (ofD s.D k)).stamp))=(zD s.D y.tx).any (tA s.D y.snap)):=by
  show _=_
  rw [mX ap (show y.tx.ended=false from Z),List.any_map];rfl
 have aq:Hid (∀j u,KK.Own V.heap.size j u (xH y.L)->Bw V j->CC 109 #[u,.func (.func 110) #[jp y.g] #[]] j fun e l=>e=.returned (.bool ((zD s.D y.tx).any (tA s.D y.snap)))/\Bw j l):=fun j u hu t=>by
  rw [<-bt.o];refine zM6 _ u (xH y.L) j (zC.own_is hu) (by grind [xH]) fun R k bb H=>?_
  exact zCn (xa.on (zA t t.size bb)) (xv.dirS.on (zA t t.size bb)) k (ba k H)
 have az:Hid (∀j,Bw V j->CC 16 #[jp y.g] j fun e l=>kI j (zD s.D y.tx) e l):=fun j t=>(zA2 (xv.on t) f (by omega) hy).mono fun e l q=>q.1
 obtain ⟨cb,ci,ce,cg⟩:=f.mrk hy Z
 have bd:∀cs:List Cx,cs.map Cx.ch=zD s.D y.tx->cs.length<=nr/\∀c∈cs,yE (c.a,c.b):=fun cs ad=>by
  have e:=mX (D:=s.D) ap (show y.tx.ended=false from Z);refine ⟨?_,fun z p=>?_⟩
  ·have q:=xad List.length (ad.trans e);rw [zaM,zaM] at q;have q2:(xH y.tx.wr).length=y.L.length:=by unfold xH;rw [zaM];rfl
   omega
  have q:z.ch∈zD s.D y.tx:=by rw [<-ad];exact xaI p
  rw [e] at q;obtain ⟨k,H,q⟩:=List.mem_map.1 q;have q3:k=(z.a,z.b):=xad Ch.key q;rw [<-q3];exact ba k H
 have bg:Hid (∀j (cp:Option Addr) (cc:Nat) (cs:List Cx),Bw V j->KCx.Own V.heap.size j (sc cp cs.length cc) cs->(∀z∈cs,vS V.heap.size j z)->cs.map Cx.ch=zD s.D y.tx->CC 111 #[jp s.ht,iu y.snap,.agg (xE y.m).toArray,sc cp cs.length cc] j fun e l=>e=.returned (.tuple #[.bool (yP s.tk y.snap y.m.mk' (zD s.D y.tx)).1,ii (yP s.tk y.snap y.m.mk' (zD s.D y.tx)).2])/\Bw j l):=fun j cp cc cs t ho he ad=>by
  obtain ⟨BT,hT,_⟩:=(xv.on t).trk;obtain ⟨ds,va,last,h,_⟩:=hT;rw [<-ad];have hm:=((xv.on t).mrk hy Z).1;refine zJV h y.snap y.m _ cs hm.inn ⟨zC.own_is ho,fun z p=>(he z p).inn⟩ (zKC hn cb ci ce cg (bd cs ad).1 (fun z p=>⟨(he z p).wcp,(he z p).icp⟩) (bd cs ad).2)
 have ao:Hid (∀(j WZ:World) (d:Dx),Bw V j->Fr (fun b=>b=Q) j WZ->((zD s.D y.tx).any (tA s.D y.snap)=false->d.snap=y.snap/\d.stamp=0/\d.out=(yP s.tk y.snap y.m.mk' (zD s.D y.tx)).1/\d.m=y.m/\d.cs.map Cx.ch=zD s.D y.tx/\KCx.Own V.heap.size j d.csl d.cs/\∀z∈d.cs,vS V.heap.size j z)->∀M:Int,M=(if (zD s.D y.tx).any (tA s.D y.snap) then 11 else (yP s.tk y.snap y.m.mk' (zD s.D y.tx)).2)->zAy W y.snap y.m (zD s.D y.tx) ((zD s.D y.tx).any (tA s.D y.snap)) (yP s.tk y.snap y.m.mk' (zD s.D y.tx)) (.returned (.tuple #[.agg (yN d).toArray,ii M])) WZ):=fun j WZ d t fz hd M bo=>by
  have q:Bw W j:=zA al al.size t;refine ⟨d,by rw [bo],fun hl=>?_,q.trans (fz.below q.size fun k H=>by omega)⟩;obtain ⟨a1,a0,a2,a3,a4,a5,a6⟩:=hd hl;have bh:∀k,V.heap.size<=k->¬ k=Q:=fun k H e=>by omega
  refine ⟨a1,a0,a2,a3,a4,zC.own_weak (fz.row (show j.ownsRow V.heap.size KCx.T KCx.k d.csl d.cs.length (KCx.cells d.cs) from a5) fun k H=>bh k (zaW (show j.ownsRow V.heap.size KCx.T KCx.k d.csl d.cs.length (KCx.cells d.cs) from a5) k H).1) al.size,fun z p=>((a6 z p).fr fz fun k H=>bh k ((a6 z p).blk k H).1).weak al.size⟩
 have Y:Hid (∀R,Bw V R->R.cell? (aa y.g 0)=some (iu y.snap)/\R.cell? (aa y.g 2)=some (jp s.h)/\R.cell? (aa y.g 4)=some y.m.ksl/\R.cell? (aa y.g 5)=some y.m.rsl/\R.cell? (aa s.h 4)=some (jp s.ht)):=fun R t=>by
  have q:=xa.on t;exact ⟨q.xc.1,q.xc.2.2.1,q.xc.2.2.2.2.1,q.xc.2.2.2.2.2,q.sc.2.2.2.2.1⟩
 obtain ⟨_,_,_,x3,_⟩:=xa.xc;have bi:Hid (∀j,Bw V j->j.heap[Q]? = some (oc #[iu 0,iu 0,.bool false,sc none 0 0,sc none 0 0,sc none 0 0] 131)):=fun j t=>(t.block Q (by omega)).trans h1
 obtain ⟨LT,bx⟩:=eE ((zD s.D y.tx).any (tA s.D y.snap));rw [bx] at aq ao ⊢;obtain ⟨CK,hCK⟩:=eE (yP s.tk y.snap y.m.mk' (zD s.D y.tx));rw [hCK] at bg ao ⊢
 generalize zD s.D y.tx=CH at *
 generalize xH y.L=KW at *
 generalize y.g=g at *
 generalize y.gw=gw at *
 generalize y.snap=snap at *
 generalize y.m=m0 at *
 generalize s.h=h at *
 generalize s.ht=ht at *
 obtain ⟨C,E,G,A,w,F⟩:=m0;obtain ⟨OU,M⟩:=CK;simp only [Mx.ksl,Mx.rsl,xE] at *
 cases LT with
 | true =>
  go_enter func64,ntmps64
  go_upto_region 1 with fail
  (try rw [hV]);(try rw [hQ]);go_wp2_with fail;refine bm.o.mono ?_;rintro e1 j ⟨u,rfl,hu,ak⟩;have ay:=hid (aq.o j u hu ak);have ai:=hid ak;go_wp2_with fail;refine ay.o.mono ?_;rintro e2 w2 ⟨rfl,ab⟩;have be:Bw V w2:=zA ai.o ai.o.size ab;have p:=bi.o w2 be;obtain ⟨ar,I,ac,g0,g1,g2,g3,g4,g5⟩:=zHb (d:=⟨0,0,false,⟨none,0,[],none,0,[]⟩,none,0,[]⟩) (P:=fun I=>zAy W snap ⟨C,E,G,A,w,F⟩ CH true (OU,M) (.returned (.tuple #[.agg (yN ⟨0,0,false,⟨none,0,[],none,0,[]⟩,none,0,[]⟩).toArray,ii 11])) I) p (fun I fz=>ao.o w2 I ⟨0,0,false,⟨none,0,[],none,0,[]⟩,none,0,[]⟩ be fz (fun h=>by cases h) 11 rfl);go_wp2_with (refine zJ rfl 131 _ _ rfl Q 0 (yN ⟨0,0,false,⟨none,0,[],none,0,[]⟩,none,0,[]⟩).toArray rfl rfl ar.o Tryz.doneSize (zCZ _) I ac.o.1 ?_);exact zaB (v:=.tuple #[.agg (yN ⟨0,0,false,⟨none,0,[],none,0,[]⟩,none,0,[]⟩).toArray,ii 11]) (by simp [results,results64,go_sem,yN,Mx.ksl,Mx.rsl,Dx.csl,g0,g1,g2,g3,g4,g5]) rfl ac.o.2
 | false =>
 go_enter func64,ntmps64
 go_upto_region 1 with fail
 (try rw [hV]);(try rw [hQ]);go_wp2_with fail;refine bm.o.mono ?_;rintro e1 j ⟨u,rfl,hu,ak⟩;have ay:=hid (aq.o j u hu ak);have ai:=hid ak;go_wp2_with fail;refine ay.o.mono ?_;rintro e2 w0 ⟨rfl,ab⟩;have bn:Hid (Bw V w0):=zA ai.o ai.o.size ab;go_upto_region 3 with fail
 go_cut [4] from 5 (fun v4 wx=>∃X cp cc cs,v4=jp X/\Hid (wx.heap[X]? = some (oc #[iu snap,iu 0,.bool false,sc C G.length E,sc A F.length w,sc cp cs.length cc] 131)/\V.heap.size<=X/\KCx.Own V.heap.size wx (sc cp cs.length cc) cs/\(∀z∈cs,vS V.heap.size wx z)/\cs.map Cx.ch=CH/\(∀k,((Value.slice cp cs.length cc).ownBlock=some k∨∃z∈cs,sC z k)->¬ k=X)/\Bw V wx))
 case first =>
  have bp:=Y.o w0 bn.o;refine tkb (S:=fun l=>l.cell? (aa g 0)=some (iu snap)/\l.cell? (aa g 2)=some (jp h)/\l.cell? (aa g 4)=some (sc C G.length E)/\l.cell? (aa g 5)=some (sc A F.length w)/\l.cell? (aa h 4)=some (jp ht)) bp fun hA=>?_;refine tkv4 0 1 2 3 (jp g) (jp g) (jp g) (iu snap) hA ?_;simp only [Act.put,sz];refine tkv3 4 5 6 (jp g) (jp g) (.pointer (some (aa g 4))) hA ?_;simp only [Act.put,sz];refine tkv2 7 8 (.agg #[sc C G.length E,sc A F.length w]) (jp g) hA ?_;simp only [Act.put,sz];have am:Hid (Bw V w0.drew):=zG bn.o 1
  generalize w0.drew=V1 at *
  refine xaA (rs:=[9,11]) (by kernel_rfl) (by simp) ?_;refine xao (zB rfl) (fun K O=>?_) (xao (zB rfl) (fun K O=>?_) xau)
  focus
   rw [xae (by rfl)]
   go_simp
   refine (az.o V1 am.o).mono ?_;rintro e w2 ⟨cp,cc,cs,rfl,ah,ag,cj,af,ab⟩;have bl:=hid (zA am.o am.o.size ab);obtain ⟨X,u,U,HM⟩:=BxM.made (zs:=#[iu 0,iu 0,.bool false,sc none 0 0,sc none 0 0,sc none 0 0]) (T:=131) bl.o;have HD:=hid ((zKP am.o.size ah (fun z p=>(ag z p).1) af (X:=X) (xaf (Nat.le_of_eq U.o.1))).on (U.o.2▸(zaR w2.heap.size w2).alloc (zaL _) _));go_wp2_with fail;refine O.out _ _ (Y.o w2 bl.o) (fun hA=>?_)
   try simp only [Act.put,sz]
   refine tkv 10 (.agg #[iu snap,iu 0,.bool false,sc C G.length E,sc A F.length w,sc cp cs.length cc]) hA ?_;simp only [Act.put,sz];refine tkc 11 fun K O=>?_
   go_simp
   go_wp2_with fail
   rw [U.o.1,U.o.2];refine O.out _ _ (Y.o u HM.o.bel) (fun hA=>?_)
   try simp only [Act.put,sz]
  rotate_left
  focus
   rw [xae (by rfl)]
   go_simp
   obtain ⟨X,u1,U,aj⟩:=BxM.made (zs:=#[iu 0,iu 0,.bool false,sc none 0 0,sc none 0 0,sc none 0 0]) (T:=131) am.o;go_wp2_with fail;rw [U.o.1,U.o.2];refine O.out _ _ (Y.o u1 aj.o.bel) (fun hA=>?_)
   try simp only [Act.put,sz]
   refine tkc 9 fun K O=>?_
   go_simp
   refine (az.o u1 aj.o.bel).mono ?_;rintro e u ⟨cp,cc,cs,rfl,ah,ag,cj,af,ab⟩;have HM:=hid (aj.o.on ab);have HD:=hid (zKP aj.o.bel.size ah (fun z p=>(ag z p).1) af (X:=X) (xac aj.o.lt));go_wp2_with fail;refine O.out _ _ (Y.o u HM.o.bel) (fun hA=>?_)
   try simp only [Act.put,sz]
   refine tkv 10 (.agg #[iu snap,iu 0,.bool false,sc C G.length E,sc A F.length w,sc cp cs.length cc]) hA ?_;simp only [Act.put,sz]
  all_goals
   obtain ⟨bu,I,ac,H4⟩:=HM.o.put (yN ⟨snap,0,false,⟨C,E,G,A,w,F⟩,cp,cc,cs⟩) rfl;have an:=hid (HD.o.put H4.o.2.1);refine tkc 12 fun K O=>?_;refine xbH 131 _ _ rfl X 0 (yN ⟨snap,0,false,⟨C,E,G,A,w,F⟩,cp,cc,cs⟩).toArray rfl rfl bu.o Tryz.doneSize (zCZ _) ?_;rw [ac.o];refine O.out _ _ (Y.o I H4.o.2.2) (fun hA=>?_)
   try simp only [Act.put,sz]
   refine tkd ?_;go_wp2_with fail;go_meet;exact ⟨X,cp,cc,cs,rfl,H4.o.1,HM.o.base,an.o.1,an.o.2.1,an.o.2.2.1,an.o.2.2.2,H4.o.2.2⟩
 obtain ⟨X,cp,cc,cs,rfl,HC⟩:=hcut;obtain ⟨hx,hXV,ah,ag,af,bs,hbc⟩:=HC.o;have bq:=hid fun n=>bg.o (wc.drewN n) cp cc cs (zG hbc n) (zC.own_on ah (zG (zaR _ wc) n)) (fun z p=>(ag z p).on (zG (zaR _ wc) n)) af
 have cf:=hid (xbf ah (xbf ag (xbf af bs)));have bf:=hid hbc;have bk:=hid hx;have ca:=hid hXV;obtain ⟨_,t2,_,_,t4⟩:=Y.o wc hbc;have d0:wc.cell? (aa X 0)=some (iu snap):=cz hx;have d1:wc.cell? (aa X 1)=some (iu 0):=cz hx;have d2:wc.cell? (aa X 2)=some (.bool false):=cz hx;have d3:wc.cell? (aa X 3)=some (sc C G.length E):=cz hx;have d4:wc.cell? (aa X 4)=some (sc A F.length w):=cz hx;have d5:wc.cell? (aa X 5)=some (sc cp cs.length cc):=cz hx;have br:Hid (∀l,Bw wc l->l.cell? (aa g 2)=some (jp h)/\l.cell? (aa h 4)=some (jp ht)/\l.cell? (aa X 0)=some (iu snap)/\l.cell? (aa X 3)=some (sc C G.length E)/\l.cell? (aa X 4)=some (sc A F.length w)/\l.cell? (aa X 5)=some (sc cp cs.length cc)):=fun l t=>⟨(t.cell (zI t2)).trans t2,(t.cell (zI t4)).trans t4,(t.cell (zI d0)).trans d0,(t.cell (zI d3)).trans d3,(t.cell (zI d4)).trans d4,(t.cell (zI d5)).trans d5⟩
 go_upto_region 4 with fail
 refine tkb (S:=fun l=>l.cell? (aa g 2)=some (jp h)/\l.cell? (aa h 4)=some (jp ht)/\l.cell? (aa X 0)=some (iu snap)/\l.cell? (aa X 3)=some (sc C G.length E)/\l.cell? (aa X 4)=some (sc A F.length w)/\l.cell? (aa X 5)=some (sc cp cs.length cc)) ⟨t2,t4,d0,d3,d4,d5⟩ fun hA=>?_;refine tkv4 0 1 2 3 (jp g) (jp g) (.pointer (some (aa g 2))) (jp h) hA ?_;simp only [Act.put,sz];refine tkv4 4 5 6 7 (jp h) (jp h) (.pointer (some (aa h 4))) (jp ht) hA ?_;simp only [Act.put,sz];refine tkv4 8 9 10 11 (jp X) (iu snap) (.pointer (some (aa X 3))) (.agg #[sc C G.length E,sc A F.length w]) hA ?_;simp only [Act.put,sz];refine tkv2 12 13 (.pointer (some (aa X 5))) (sc cp cs.length cc) hA ?_;simp only [Act.put,sz];refine tkc 14 fun K O=>?_
 go_simp
 refine (bq.o 1).mono ?_;rintro e4 N ⟨rfl,bw⟩;have hb4':Bw wc N:=zA (zG (zaR wc.heap.size wc) 1) (by simp) bw;have bv:=br.o N hb4';have aw:N.heap[X]? = some (oc #[iu snap,iu 0,.bool false,sc C G.length E,sc A F.length w,sc cp cs.length cc] 131):=(hb4'.block X (gA bk.o).1).trans bk.o;have au:=hid hb4';go_wp2_with fail;refine O.out _ _ bv (fun hA=>?_)
 try simp only [Act.put,sz]
 refine tkv3 15 16 18 (.tuple #[.bool OU,ii M]) (.bool OU) (.bool OU) hA ?_;simp only [Act.put,sz];refine tkv2 17 19 (ii M) (ii M) hA ?_;simp only [Act.put,sz];refine tkd ?_;obtain ⟨J,av⟩:=eE (N.setCell (aa X 2) (.bool OU))
 have ae:J.heap[X]? = some (oc #[iu snap,iu 0,.bool OU,sc C G.length E,sc A F.length w,sc cp cs.length cc] 131):=by
  rw [<-av];exact xaa N X 2 _ _ _ aw
 have f5:Fr (fun b=>b=X) N J:=by rw [<-av];exact zZ N X 2 _
 have bj:Bw V N:=zA bf.o bf.o.size au.o;have bc:Bw V J:=bj.trans (f5.below bj.size fun k H=>by have:=ca.o;omega);have p:=bi.o J bc
 have ax:Hid (KCx.Own V.heap.size J (sc cp cs.length cc) cs/\(∀z∈cs,vS V.heap.size J z)/\cs.map Cx.ch=CH):=by
  obtain ⟨q1,q2,q3,q4⟩:=cf.o;refine ⟨f5.row (show N.ownsRow V.heap.size KCx.T KCx.k (sc cp cs.length cc) cs.length (KCx.cells cs) from zC.own_on q1 au.o) fun k H=>q4 k (xac H),fun z p=>((q2 z p).on au.o).fr f5 fun k H=>q4 k (xaf ⟨z,p,H⟩),q3⟩
 have s2:N.cell? (aa X 2)=some (.bool false):=cz aw;have sf:N.frozen? (aa X 2)=false:=zaF aw 2;have d0:J.cell? (aa X 0)=some (iu snap):=cz ae;have d1:J.cell? (aa X 1)=some (iu 0):=cz ae;have d2:J.cell? (aa X 2)=some (.bool OU):=cz ae;have d3:J.cell? (aa X 3)=some (sc C G.length E):=cz ae;have d4:J.cell? (aa X 4)=some (sc A F.length w):=cz ae;have d5:J.cell? (aa X 5)=some (sc cp cs.length cc):=cz ae;obtain ⟨ar,I,ac,g0,g1,g2,g3,g4,g5⟩:=zHb (d:=⟨snap,0,OU,⟨C,E,G,A,w,F⟩,cp,cc,cs⟩) (P:=fun I=>zAy W snap ⟨C,E,G,A,w,F⟩ CH false (OU,M) (.returned (.tuple #[.agg (yN ⟨snap,0,OU,⟨C,E,G,A,w,F⟩,cp,cc,cs⟩).toArray,ii M])) I) p (fun I fz=>ao.o J I ⟨snap,0,OU,⟨C,E,G,A,w,F⟩,cp,cc,cs⟩ bc fz (fun _=>⟨rfl,rfl,rfl,rfl,ax.o.2.2,ax.o.1,ax.o.2.1⟩) M rfl);go_upto_region 6 with fail
 (try rw [av]);go_wp2_with (refine zJ rfl 131 _ _ rfl Q 0 (yN ⟨snap,0,OU,⟨C,E,G,A,w,F⟩,cp,cc,cs⟩).toArray rfl rfl ar.o Tryz.doneSize (zCZ _) I ac.o.1 ?_);exact zaB (v:=.tuple #[.agg (yN ⟨snap,0,OU,⟨C,E,G,A,w,F⟩,cp,cc,cs⟩).toArray,ii M]) (by simp [results,results64,go_sem,yN,Mx.ksl,Mx.rsl,Dx.csl,g0,g1,g2,g3,g4,g5]) rfl ac.o.2
end
section
variable {i:Nat} {y:Px} {x:Tx} {s:Ps}
section
variable {nr:Nat} {s:Ps}
theorem xF.fin (f:xF nr s) {i:Nat} {y:Px} (g:s.xs[i]? = some y) (d:y.ended=false) {a:Ps} (c:a.xs=s.xs.set i { y with ended:=true }) (e:a.os=yM s.os y.id) (b:a.vers=s.vers) (k:a.nv<=s.nv+y.L.length) (l:OkS a.sv):xF nr a:=by
 obtain ⟨hi,rfl⟩:=gL g;have q:=f.ends hi d;have t:(s.xs[i]).load=(s.xs[i]).L.length:=by unfold Px.load;rw [d];rfl
 have r:=zBr s.xs i hi { s.xs[i] with ended:=true };have v:=f.room;have J:({ s.xs[i] with ended:=true }:Px).load=0:=rfl;have h:=q.mks;have n:=q.ids;have j:=q.nx;have m:=q.os;obtain ⟨u,K,F,o,G,C,z,p,H,A,B,I,w,D,E⟩:=a
 dsimp only at c e b k
 subst c e b;refine ⟨?_,j,h,n,m,l,f.v4⟩
 grind
end
theorem zJP (t:Tk) (s:Int) (m:Mk) (ch:List Ch):(yP t s m ch).2=0∨(yP t s m ch).2=11:=by grind [yP]
theorem zMP {S:Sv} (a:x.ended=false) (h:(zD S.D x).any (tA S.D x.snap)=true∨(yP S.tk x.snap x.marks (zD S.D x)).2≠0):zU S i x=((0,11),yA S i { x with ended:=true }):=by grind [zU]
theorem zMU (f:x.ended=false) (d:(zD s.D x).any (tA s.D x.snap)=false) (c:(yP s.tk x.snap x.marks (zD s.D x)).2=0):((wrR s (zD s.D x)).1.2≠0->zU s.sv i x=((0,(wrR s (zD s.D x)).1.2),yA s.sv i { x with ended:=true })/\(wrR s (zD s.D x)).2=s) /\
  ((wrR s (zD s.D x)).1.2=0->zU s.sv i x=(((wrR s (zD s.D x)).1.1,0),(uE s.sv i x (zD s.D x) (yP s.tk x.snap x.marks (zD s.D x)).1).2)):=by
 have a:zU s.sv i x=if zD s.D x≠[]/\s.vers<(zT s.D:Int)+((zD s.D x).length:Int) then ((0,9),yA s.sv i { x with ended:=true })
   else if zD s.D x≠[]/\s.last=tD then ((0,10),yA s.sv i { x with ended:=true })
   else (((uE s.sv i x (zD s.D x) (yP s.tk x.snap x.marks (zD s.D x)).1).1,0),(uE s.sv i x (zD s.D x) (yP s.tk x.snap x.marks (zD s.D x)).1).2):=by
  unfold zU;rw [xag (by grind),xag (by show ¬ (zD s.D x).any (tA s.D x.snap)=true;grind),xag (by show ¬ (yP s.tk x.snap x.marks (zD s.D x)).2≠0;omega)];rfl
 by_cases hn:zD s.D x=[]
 ·grind [wrR,uE]
 by_cases hf:s.vers<(zT s.D:Int)+((zD s.D x).length:Int)
 ·grind [wrR]
 by_cases hl:s.last=tD
 ·grind [wrR]
 have b:(wrR s (zD s.D x)).1=(s.last+1,0):=by unfold wrR;rw [xag hn,xag hf,xag hl]
 rw [b,a,xag (fun h=>hf h.2),xag (fun h=>hl h.2)];refine ⟨fun h=>absurd rfl h,fun _=>?_⟩
 have e:(uE s.sv i x (zD s.D x) (yP s.tk x.snap x.marks (zD s.D x)).1).1=s.last+1:=by
  unfold uE;exact xag hn
 rw [e]
theorem zPo (t:s.os=xR s.sv) (u:y.id=(i:Int)+1) (ch:List Ch) (p:(wrR s ch).1.2=0) (b:Bool):∃c s3,(wrR s ch).2=c/\trR { c with xs:=c.xs.set i { y with ended:=true },os:=yM c.os y.id } ⟨y.snap,c.last,b,y.m.mk',ch⟩=s3/\s3.sv=(uE s.sv i y.tx ch b).2/\s3.h=s.h/\s3.xs=s.xs.set i { y with ended:=true }/\s3.os=yM s.os y.id/\s3.vers=s.vers/\s3.nv=s.nv+ch.length/\c.xs=s.xs/\c.os=s.os/\c.h=s.h/\c.last=(if ch=[] then s.last else s.last+1)/\(ch≠[]->s.last≠tD):=by
 have n:∀c:Ps,c.xs=s.xs->(c.xs.set i { y with ended:=true }).map Px.tx=(yA s.sv i { y.tx with ended:=true }).txs:=fun c e=>by
  rw [e];show _=(s.xs.map Px.tx).set i _;rw [List.map_set];rfl
 have r:∀j:Sv,j.txs=(yA s.sv i { y.tx with ended:=true }).txs->xR j=yM s.os y.id:=fun j e=>by
  have q:xR j=xR (yA s.sv i { y.tx with ended:=true }):=by unfold xR;rw [e]
  rw [q,zBN,t,u]
  grind [yM]
 by_cases hn:ch=[]
 ·have g:(wrR s ch).2=s:=by unfold wrR;rw [xae hn]
  subst hn;obtain ⟨a,f⟩:=eE ({ s with xs:=s.xs.set i { y with ended:=true },os:=yM s.os y.id }:Ps)
  have w:a.sv=yA s.sv i { y.tx with ended:=true }:=by
   rw [<-f];show Sv.mk _ _ _ _ _ _ ((s.xs.set i { y with ended:=true }).map Px.tx)=_;rw [n s rfl];rfl
  have d:a.h=s.h/\a.xs=s.xs.set i { y with ended:=true }/\a.os=yM s.os y.id/\a.vers=s.vers/\a.nv=s.nv+([]:List Ch).length:=by
   rw [<-f];exact ⟨rfl,rfl,rfl,rfl,rfl⟩
  by_cases hm:y.m.mk'=([],[])
  ·have o:trR a ⟨y.snap,s.last,b,y.m.mk',[]⟩=a:=by
    unfold trR;exact xae ⟨rfl,hm⟩
   have k:(uE s.sv i y.tx [] b).2=yA s.sv i { y.tx with ended:=true }:=by
    show (if ([]:List Ch)=[]/\y.tx.marks=([],[]) then (if ([]:List Ch)=[] then _ else _) else _)=_
    rw [xae ⟨rfl,hm⟩,xae rfl]
   grind
  have o:trR a ⟨y.snap,s.last,b,y.m.mk',[]⟩={ a with tk:=uS (nD a.tk ⟨y.snap,s.last,b,y.m.mk',[]⟩).2 (yJ a.os a.last) }:=by
   unfold trR;exact xag fun h=>hm h.2
  have l:zP (yA s.sv i { y.tx with ended:=true })=yJ (yM s.os y.id) s.last:=by
   unfold zP;rw [r _ rfl];rfl
  have k:(uE s.sv i y.tx [] b).2={ yA s.sv i { y.tx with ended:=true } with tk:=uS (nD s.tk ⟨y.snap,s.last,b,y.m.mk',[]⟩).2 (yJ (yM s.os y.id) s.last) }:=by
   rw [<-l];show (if ([]:List Ch)=[]/\y.tx.marks=([],[]) then _ else _)=_;rw [xag fun h=>hm h.2];rfl
  refine ⟨s,{ a with tk:=uS (nD a.tk ⟨y.snap,s.last,b,y.m.mk',[]⟩).2 (yJ a.os a.last) },g,by grind,?_,d.1,d.2.1,d.2.2.1,d.2.2.2.1,d.2.2.2.2,rfl,rfl,rfl,by rw [xae rfl],fun h=>absurd rfl h⟩;rw [k,<-f];show Sv.mk _ _ _ _ _ _ ((s.xs.set i { y with ended:=true }).map Px.tx)=_;rw [n s rfl];rfl
 have g:¬ s.vers<(zT s.D:Int)+(ch.length:Int)/\s.last≠tD:=by
  unfold wrR at p;rw [xag hn] at p;constructor
  ·grind
  grind
 have v:(wrR s ch).2={ s with last:=s.last+1,nv:=s.nv+ch.length,D:=yV s.D ch (s.last+1) s.tick }:=by
  unfold wrR;rw [xag hn,xag g.1,xag g.2]
 obtain ⟨a,f⟩:=eE (({ ({ s with last:=s.last+1,nv:=s.nv+ch.length,D:=yV s.D ch (s.last+1) s.tick }:Ps) with xs:=s.xs.set i { y with ended:=true },os:=yM s.os y.id }:Ps))
 have d:a.h=s.h/\a.xs=s.xs.set i { y with ended:=true }/\a.os=yM s.os y.id/\a.vers=s.vers/\a.nv=s.nv+ch.length:=by
  rw [<-f];exact ⟨rfl,rfl,rfl,rfl,rfl⟩
 have o:trR a ⟨y.snap,s.last+1,b,y.m.mk',ch⟩={ a with tk:=uS (nD a.tk ⟨y.snap,s.last+1,b,y.m.mk',ch⟩).2 (yJ a.os a.last) }:=by
  unfold trR;exact xag fun h=>hn h.1
 have l:zP { yA s.sv i { y.tx with ended:=true } with last:=s.last+1,D:=yV s.D ch (s.last+1) s.tick }=yJ (yM s.os y.id) (s.last+1):=by
  have q:=r { yA s.sv i { y.tx with ended:=true } with last:=s.last+1,D:=yV s.D ch (s.last+1) s.tick } rfl;show yJ (xR { yA s.sv i { y.tx with ended:=true } with last:=s.last+1,D:=yV s.D ch (s.last+1) s.tick }) (s.last+1)=_;rw [q]
 have k:(uE s.sv i y.tx ch b).2={ yA s.sv i { y.tx with ended:=true } with last:=s.last+1,D:=yV s.D ch (s.last+1) s.tick,tk:=uS (nD s.tk ⟨y.snap,s.last+1,b,y.m.mk',ch⟩).2 (yJ (yM s.os y.id) (s.last+1)) }:=by
  rw [<-l];unfold uE;simp only [hn,false_and,if_false];rfl
 refine ⟨{ s with last:=s.last+1,nv:=s.nv+ch.length,D:=yV s.D ch (s.last+1) s.tick },{ a with tk:=uS (nD a.tk ⟨y.snap,s.last+1,b,y.m.mk',ch⟩).2 (yJ a.os a.last) },v,by grind,?_,d.1,d.2.1,d.2.2.1,d.2.2.2.1,d.2.2.2.2,rfl,rfl,rfl,by rw [xag hn],fun _=>g.2⟩;rw [k,<-f];show Sv.mk _ _ _ _ _ _ ((s.xs.set i { y with ended:=true }).map Px.tx)=_;rw [n s rfl];rfl
end
def XsT (n0 nr:Nat) (W:World) (h:Nat) (gs:List Nat) (c:Nat->Nat) (r:Int × Int) (S':Sv) (e:Ending) (w':World):Prop:=e=.returned (.tuple #[.int .u64 r.1,.int .i64 r.2])/\uN n0 nr W h gs c S' w'
theorem zGk {n0 Z:Nat} {W:World} {s:Ps} {c:Nat->Nat} (x:zS n0 W s c) (f:xF Z s) (hn:Z<=1300000000000) {i:Nat} {y:Px} (t:s.xs[i]? = some y):CC 20 #[.pointer (some ⟨y.g,0,none⟩)] W fun e l=>XsT n0 Z W s.h (s.xs.map Px.g) c (zU s.sv i y.tx).1 (zU s.sv i y.tx).2 e l:=by
 have HE:=hid (x.endis t W (zaR _ _))
 cases hE:y.ended with
 | true =>
  have ao:zU s.sv i y.tx=((0,12),s.sv):=by
   unfold zU;rw [xae (show y.tx.ended=true from hE)]
  rw [hE] at HE
  have ay:Hid (XsT n0 Z W s.h (s.xs.map Px.g) c (zU s.sv i y.tx).1 (zU s.sv i y.tx).2 (.returned (.tuple #[iu 0,ii 12])) W):=by
   show XsT _ _ _ _ _ _ _ _ _ _
   rw [ao];exact ⟨rfl,(Mid.start x f (zaL Z) (zaR _ _)).step rfl⟩
  generalize zU s.sv i y.tx=R at *
  generalize y.g=g at *
  clear x f t hE hn ao;go_enter func20,ntmps20;go_wp2_with fail;refine HE.o.mono ?_;rintro M v ⟨rfl,rfl⟩;go_wp2_with fail
  go_ret2
  exact ay.o
 | false =>
 rw [hE] at HE;have ae:=hid (zFO x f hn t hE);obtain ⟨bc,ci⟩:=f.idb t hE;have bp:MU.fit y.id:=zJr (by omega) (by omega)
 have cj:c y.g=7+3 * i:=by
  obtain ⟨hi,rfl⟩:=gL t;exact (x.txo i hi).2.2
 have au:Hid (∀l,Bw W l->l.cell? (aa y.g 2)=some (jp s.h)):=fun l H=>((x.on H).xat t hE).xc.2.2.1
 have bs:=f.nx;have bu:=f.lod t hE
 have bj:(zD s.D y.tx).length=y.L.length:=by
  unfold zD;rw [xag (by show ¬ y.ended=true;grind),zaM];rfl
 have ax:Hid (∀(p:Ps) (E:Nat->Nat) (w:World),zS n0 w p E->p.xs=s.xs->p.os=s.os->(∀k,k<W.heap.size->E k=c k)->Fr (fun k=>c k=2∨c k=5) W w->w.cell? (aa y.g 2)=some (jp p.h)/\CC 63 #[jp y.g] w fun e l=>e=.returned (.tuple #[])/\∃G,zS n0 l { p with xs:=p.xs.set i { y with ended:=true },os:=yM p.os y.id } G/\(∀k,k<w.heap.size->G k=E k)/\Fr (fun k=>E k=4∨E k=7+3 * i) w l):=fun p E w q M e2 av I=>by
  have ck:p.xs[i]? = some y:=by rw [M];exact t
  exact ⟨(q.xat ck hE).xc.2.2.1,zGH q ck hE bp⟩
 by_cases hno:(zD s.D y.tx).any (tA s.D y.snap)=true∨(yP s.tk y.snap y.m.mk' (zD s.D y.tx)).2≠0
 ·have ao:=zMP (S:=s.sv) (i:=i) (x:=y.tx) hE hno
  have bq:(if (zD s.D y.tx).any (tA s.D y.snap) then (11:Int) else (yP s.tk y.snap y.m.mk' (zD s.D y.tx)).2)=11:=by
   rcases hno with h|h
   ·rw [xae h]
   grind [zJP]
  have ay:Hid (∀(G:Nat->Nat) (w l:World),Bw W w->zS n0 l { s with xs:=s.xs.set i { y with ended:=true },os:=yM s.os y.id } G->(∀k,k<w.heap.size->G k=c k)->Fr (fun k=>c k=4∨c k=7+3 * i) w l->XsT n0 Z W s.h (s.xs.map Px.g) c (zU s.sv i y.tx).1 (zU s.sv i y.tx).2 (.returned (.tuple #[iu 0,ii 11])) l):=fun G w l H q cx I=>by
   rw [ao];refine ⟨rfl,G,⟨_,q,?_,rfl,zEf t rfl,uC s i { y with ended:=true }⟩,Fr.then (Fr.of_below H) I fun k j=>xac (by omega),fun k j=>cx k (zaT j H.size)⟩;obtain ⟨hi,rfl⟩:=gL t;exact f.ends hi hE
  have an:Hid (∀w,Bw W w->CC 63 #[jp y.g] w fun e l=>e=.returned (.tuple #[])/\XsT n0 Z W s.h (s.xs.map Px.g) c (zU s.sv i y.tx).1 (zU s.sv i y.tx).2 (.returned (.tuple #[iu 0,ii 11])) l):=fun w H=>(ax.o s c w (x.on H) rfl rfl (fun _ _=>rfl) (Fr.of_below H)).2.mono fun e l q=>by
   obtain ⟨q0,G,q1,q2,q3⟩:=q;exact ⟨q0,ay.o G w l H q1 q2 q3⟩
  unfold zAy at ae;rw [bq] at ae
  generalize zU s.sv i y.tx=R at *
  generalize (zD s.D y.tx).any (tA s.D y.snap)=LT at *
  generalize yP s.tk y.snap y.m.mk' (zD s.D y.tx)=CK at *
  generalize zD s.D y.tx=CH at *
  generalize y.g=g at *
  generalize s.h=h at *
  clear x f hn t hE bc ci bp cj bs bu bj hno ao bq ax ay;go_enter func20,ntmps20;go_wp2_with fail;refine HE.o.mono ?_;rintro e0 W ⟨rfl,rfl⟩;go_wp2_with fail;refine ae.o.mono ?_;rintro M v ⟨d,rfl,hd,hb1⟩;obtain ⟨X,hX⟩:=eE v.heap.size;obtain ⟨V0,hV0⟩:=eE (v.alloc (.cells #[iu 0,iu 0,.bool false,sc none 0 0,sc none 0 0,sc none 0 0] 131));have C:V0.heap[X]? = some (oc #[iu 0,iu 0,.bool false,sc none 0 0,sc none 0 0,sc none 0 0] 131):=by rw [<-hV0,<-hX];exact xab v _
  have af:Bw v V0:=by rw [<-hV0];exact zaQ
  have az:=hid hd;obtain ⟨U,J,ac,⟨Q,Y,ad,O,N,ab⟩,A,B,n⟩:=d;simp only [yN,Mx.ksl,Mx.rsl,Dx.csl] at *;obtain ⟨V,hV⟩:=eE (((((((V0.setCell (aa X 0) (iu U)).setCell (aa X 1) (iu J)).setCell (aa X 2) (.bool ac)).setCell (aa X 3) (sc Q ad.length Y)).setCell (aa X 4) (sc O ab.length N)).setCell (aa X 5) (sc A n.length B)))
  have ah:V.heap[X]? = some (oc #[iu U,iu J,.bool ac,sc Q ad.length Y,sc O ab.length N,sc A n.length B] 131):=by
   rw [<-hV];exact xaa _ X 5 _ _ _ (xaa _ X 4 _ _ _ (xaa _ X 3 _ _ _ (xaa _ X 2 _ _ _ (xaa _ X 1 _ _ _ (xaa _ X 0 _ _ _ C)))))
  have fv:Fr (fun b=>b=X) V0 V:=by
   rw [<-hV];exact (((((zZ V0 X 0 _).then (zZ _ X 1 _) fun k j=>xac j).then (zZ _ X 2 _) fun k j=>xac j).then (zZ _ X 3 _) fun k j=>xac j).then (zZ _ X 4 _) fun k j=>xac j).then (zZ _ X 5 _) fun k j=>xac j
  have ai:Bw v V:=af.trans (fv.below af.size fun k j=>by omega);have aq:=hid (zA hb1 hb1.size ai);have bi:=hid ai;have am:=hid ah;have bl:Hid (W.heap.size<=X):=by show _<=_;rw [<-hX];exact hb1.size
  have y0:V0.cell? (aa X 0)=some (iu 0):=cz C;have y1:V0.cell? (aa X 1)=some (iu 0):=cz C;have y2:V0.cell? (aa X 2)=some (.bool false):=cz C;have y3:V0.cell? (aa X 3)=some (sc none 0 0):=cz C;have y4:V0.cell? (aa X 4)=some (sc none 0 0):=cz C;have y5:V0.cell? (aa X 5)=some (sc none 0 0):=cz C;have z0:=zaF C;clear C af fv ai hb1 hd ae HE;have cE:=au.o V aq.o;have bx:=hid (an.o V aq.o);clear an au az am ah;go_upto_region 5 with fail
  (try rw [hX]);(try rw [hV0]);(try rw [hV]);clear y0 y1 y2 y3 y4 y5 z0;go_wp2_with fail;refine bx.o.mono ?_;rintro e2 P ⟨rfl,hq⟩;have HQ:=hid hq;clear hq bx cE;go_wp2_with fail
  go_ret2
  exact HQ.o
 have bm:(zD s.D y.tx).any (tA s.D y.snap)=false:=by
  cases h:(zD s.D y.tx).any (tA s.D y.snap) with
  | true=>grind
  | false=>rfl
 have bo:(yP s.tk y.snap y.m.mk' (zD s.D y.tx)).2=0:=by
  rcases Int.decEq (yP s.tk y.snap y.m.mk' (zD s.D y.tx)).2 0 with h|h
  ·omega
  exact h
 obtain ⟨cd,ce⟩:=zMU (s:=s) (i:=i) (x:=y.tx) hE bm bo;have cf:0<=s.last:=by have h1:=f.ok.fl;have h2:=f.ok.fl0;exact Int.le_trans h2 h1
 have al:s.last<=tD:=f.ok.top;have bz:(zT s.D:Int)<=4096:=by have h1:=f.ok.cnt;have h2:=f.v4;exact Int.le_trans h1 h2
 have bb:∀n:List Cx,n.map Cx.ch=zD s.D y.tx->∀z∈n,yO (z.a,z.b):=fun n ar z F=>by
  have q:z.ch∈zD s.D y.tx:=by rw [<-ar];exact xaI F
  rw [mX (f.okw t).wr (show y.tx.ended=false from hE)] at q;obtain ⟨k,j,q⟩:=List.mem_map.1 q;have q3:k=(z.a,z.b):=xad Ch.key q;rw [<-q3];unfold xH at j;obtain ⟨r,hr,rfl⟩:=List.mem_map.1 j;exact key_fit ((f.okw t).wr.key r hr)
 have bt:Hid (∀(w:World) (A:Option Addr) (B:Nat) (n:List Cx),Bw W w->KCx.Own W.heap.size w (sc A n.length B) n->(∀z∈n,vS W.heap.size w z)->n.map Cx.ch=zD s.D y.tx->CC 65 #[jp s.h,sc A n.length B] w fun e l=>cW n0 w c (wrR s (zD s.D y.tx)) e l):=fun w A B n H ho he ar=>by
  rw [<-ar];refine zIo (x.on H) cf al bz _ n ho he (bb n ar) x.out ?_
  grind
 have an:Hid (∀(E:Nat->Nat) (w v:World),Bw W w->zS n0 v (wrR s (zD s.D y.tx)).2 E->(∀k,k<w.heap.size->E k=c k)->Fr (fun k=>c k=2∨c k=5) w v->v.cell? (aa y.g 2)=some (jp s.h)/\CC 63 #[jp y.g] v fun e l=>e=.returned (.tuple #[])/\((wrR s (zD s.D y.tx)).1.2≠0->XsT n0 Z W s.h (s.xs.map Px.g) c (zU s.sv i y.tx).1 (zU s.sv i y.tx).2 (.returned (.tuple #[iu 0,ii (wrR s (zD s.D y.tx)).1.2])) l) /\
   ((wrR s (zD s.D y.tx)).1.2=0->(∀k,W.heap.size<=k->k<w.heap.size->l.heap[k]? = w.heap[k]?)/\∀d:Dx,d.snap=y.snap->d.out=(yP s.tk y.snap y.m.mk' (zD s.D y.tx)).1->d.m=y.m->d.cs.map Cx.ch=zD s.D y.tx->(0<=d.stamp/\d.stamp<=18446744073709551615)->KCx.Own W.heap.size w d.csl d.cs->(∀z∈d.cs,vS W.heap.size w z)->CC 66 #[jp s.h,.agg (yN d).toArray] l fun e P=>e=.returned (.tuple #[])/\XsT n0 Z W s.h (s.xs.map Px.g) c (zU s.sv i y.tx).1 (zU s.sv i y.tx).2 (.returned (.tuple #[iu (wrR s (zD s.D y.tx)).1.1,ii 0])) P)):=fun E w v H q av I=>by
  have bg:(wrR s (zD s.D y.tx)).2.xs=s.xs/\(wrR s (zD s.D y.tx)).2.os=s.os/\(wrR s (zD s.D y.tx)).2.h=s.h:=by
   unfold wrR
   split
   ·grind
   grind
  have bw:∀k,k<W.heap.size->E k=c k:=fun k j=>av k (zaT j H.size)
  have aw:Fr (fun k=>c k=2∨c k=5) W v:=Fr.then (Fr.of_below H) I fun k j=>xac j
  obtain ⟨p1,p2⟩:=ax.o _ E v q bg.1 bg.2.1 bw aw;rw [bg.2.2] at p1;refine ⟨p1,p2.mono fun e l r=>?_⟩;obtain ⟨r0,G,r1,r2,r3⟩:=r
  have bk:Fr (fun k=>c k≠0) W l:=by
   refine Fr.then (aw.mono fun k j=>by omega) r3 fun k j=>?_
   by_cases e:k<W.heap.size
   ·grind
   omega
  have bf:∀k,k<W.heap.size->G k=c k:=fun k j=>(r2 k (zaT j aw.size)).trans (bw k j)
  refine ⟨r0,fun de=>?_,fun F=>⟨fun k bh ag=>?_,fun d d1 d2 d3 d4 d5 d6 d7=>?_⟩⟩
  ·obtain ⟨g1,g2⟩:=cd de;rw [g2] at r1;rw [g1];refine ⟨rfl,G,⟨_,r1,?_,rfl,zEf t rfl,uC s i { y with ended:=true }⟩,bk,bf⟩;obtain ⟨hi,rfl⟩:=gL t;exact f.ends hi hE
  ·have br:c k=0:=x.out k bh;have M:=I.block k ag (by rw [br];decide);have e2:E k=c k:=av k ag;refine (r3.block k (zaT ag I.size) ?_).trans M;show ¬ (E k=4∨E k=7+3 * i);omega
  obtain ⟨p,s3,t1,t2,t3,t4,t5,t6,t7,t8,t9,cm,cu,ct,di⟩:=zPo (y:=y) f.os bc (zD s.D y.tx) F (yP s.tk y.snap y.m.mk' (zD s.D y.tx)).1;rw [t1] at r1
  have cn:0<=p.last/\p.last<=18446744073709551615:=by
   rw [ct];unfold tD at *
   split
   ·omega
   grind
  have be:=(x.mrk t hE);have dh:∀k,kN y.m k->k<W.heap.size/\c k=9+3 * i:=fun k j=>⟨(be.1.blk k j).2,be.2 k j⟩
  have cq:Fr (fun k=>c k=2∨c k=5∨c k=4∨c k=7+3 * i) W l:=by
   refine Fr.then (aw.mono fun k j=>by omega) r3 fun k j=>?_
   by_cases e:k<W.heap.size
   ·grind
   omega
  have hm':RMk n0 l y.m:=be.1.fr cq fun k j e=>by grind
  have dj:∀k,W.heap.size<=k->k<w.heap.size->l.heap[k]? = w.heap[k]?:=fun k bh ag=>by
   have br:c k=0:=x.out k bh;have M:=I.block k ag (by omega);have e2:E k=c k:=av k ag;refine (r3.block k (zaT ag I.size) ?_).trans M;omega
  have ho':KCx.Own W.heap.size l d.csl d.cs:=fG (show w.ownsRow W.heap.size KCx.T KCx.k d.csl d.cs.length (KCx.cells d.cs) from d6) fun k j=>by
   have q:=zaW (show w.ownsRow W.heap.size KCx.T KCx.k d.csl d.cs.length (KCx.cells d.cs) from d6) k j
   grind
  have db:Fr (fun k=>¬ (W.heap.size<=k/\k<w.heap.size)) w l:=⟨r3.os.trans I.os,r3.tape.trans I.tape,r3.output.trans I.output,zaU I.size r3.size,fun k j hn=>by grind⟩;have he':∀z∈d.cs,vS W.heap.size l z:=fun z F=>(d7 z F).fr db fun k j hq=>hq ((d7 z F).blk k j)
  obtain ⟨cv,dc,cw,cy⟩:=f.mrk t hE
  have cl:d.cs.length<=Z:=by
   have q:=xad List.length d4;rw [zaM] at q;omega
  have da:DIn l d:=by
   refine ⟨by rw [d3];exact hm'.inn,⟨zC.own_is ho',fun z F=>(he' z F).inn⟩,?_,?_,d5⟩
   ·rw [d3];exact zKC hn cv dc cw cy cl (fun z F=>⟨(d7 z F).wcp,(d7 z F).icp⟩) (bb d.cs d4)
   rw [d1];have h1:=(f.okw t).lo;have h2:=(f.okw t).hi;unfold tD at al;exact ⟨h1,Int.le_trans h2 al⟩
  have cr:(yM p.os y.id).length<40000000000000:=by
   rw [bB,cm,f.os,zBB];show (s.xs.map Px.tx).length<_;rw [zaM];omega
  have co:=zIs (s:={ p with xs:=p.xs.set i { y with ended:=true },os:=yM p.os y.id }) r1 cn cr d da
  have dd:CC 66 #[jp s.h,.agg (yN d).toArray] l fun e P=>zCr n0 l G (trR { p with xs:=p.xs.set i { y with ended:=true },os:=yM p.os y.id } ⟨d.snap,p.last,d.out,d.m.mk',d.cs.map Cx.ch⟩) e P:=by
   rw [<-cu];exact co
  refine dd.mono fun e P u=>?_
  obtain ⟨u0,c3,u1,u2,u3⟩:=u;refine ⟨u0,?_⟩
  have ht:trR { p with xs:=p.xs.set i { y with ended:=true },os:=yM p.os y.id } ⟨d.snap,p.last,d.out,d.m.mk',d.cs.map Cx.ch⟩=s3:=by
   rw [d1,d2,d3,d4];exact t2
  have u1':zS n0 P s3 c3:=by
   rw [<-ht];exact u1
  have ca:=ce F;rw [ca];refine ⟨rfl,c3,⟨s3,u1',?_,t4,by rw [t5];exact zEf t rfl,t3⟩,?_,fun k j=>(u2 k (zaT j bk.size)).trans (bf k j)⟩
  ·refine f.fin t hE t5 t6 t7 (by rw [t8,bj];exact zaL _) ?_;rw [t3];have q:=zI0 f.ok (i:=i) (f.okw t);rw [ca] at q;exact q
  refine bk.then u3 fun k j=>?_
  by_cases e:k<W.heap.size
  ·refine xac ?_;have:=bf k e;have j:G k=3:=j;omega
  exact xaf (by omega)
 have dk:Hid (0<=y.snap/\y.snap<=18446744073709551615):=by
  have h1:=(f.okw t).lo;have h2:=(f.okw t).hi;unfold tD at al;exact ⟨h1,Int.le_trans h2 al⟩
 unfold zAy at ae;rw [bm,xag (by decide),bo] at ae;have dg:Hid (∀k,W.heap.size<=k->c k=0):=x.out
 generalize hWR:wrR s (zD s.D y.tx)=WR at *
 generalize zU s.sv i y.tx=R at *
 generalize yP s.tk y.snap y.m.mk' (zD s.D y.tx)=CK at *
 generalize zD s.D y.tx=CH at *
 generalize y.g=g at *
 generalize s.h=h at *
 clear x f hn t hE bc ci bp cj bs bu bj hno bm bo cd ce cf al bz bb ax hWR;go_enter func20,ntmps20;go_wp2_with fail;refine HE.o.mono ?_;rintro e0 W ⟨rfl,rfl⟩;go_wp2_with fail;refine ae.o.mono ?_;rintro M v ⟨d,rfl,hd,hb1⟩;obtain ⟨X,hX⟩:=eE v.heap.size;obtain ⟨V0,hV0⟩:=eE (v.alloc (.cells #[iu 0,iu 0,.bool false,sc none 0 0,sc none 0 0,sc none 0 0] 131));have C:V0.heap[X]? = some (oc #[iu 0,iu 0,.bool false,sc none 0 0,sc none 0 0,sc none 0 0] 131):=by rw [<-hV0,<-hX];exact xab v _
 have af:Bw v V0:=by rw [<-hV0];exact zaQ
 have az:=hid hd;obtain ⟨U,J,ac,⟨Q,Y,ad,O,N,ab⟩,A,B,n⟩:=d;simp only [yN,Mx.ksl,Mx.rsl,Dx.csl] at *;obtain ⟨V,hV⟩:=eE (((((((V0.setCell (aa X 0) (iu U)).setCell (aa X 1) (iu J)).setCell (aa X 2) (.bool ac)).setCell (aa X 3) (sc Q ad.length Y)).setCell (aa X 4) (sc O ab.length N)).setCell (aa X 5) (sc A n.length B)))
 have ah:V.heap[X]? = some (oc #[iu U,iu J,.bool ac,sc Q ad.length Y,sc O ab.length N,sc A n.length B] 131):=by
  rw [<-hV];exact xaa _ X 5 _ _ _ (xaa _ X 4 _ _ _ (xaa _ X 3 _ _ _ (xaa _ X 2 _ _ _ (xaa _ X 1 _ _ _ (xaa _ X 0 _ _ _ C)))))
 have fv:Fr (fun b=>b=X) V0 V:=by
  rw [<-hV];exact (((((zZ V0 X 0 _).then (zZ _ X 1 _) fun k j=>xac j).then (zZ _ X 2 _) fun k j=>xac j).then (zZ _ X 3 _) fun k j=>xac j).then (zZ _ X 4 _) fun k j=>xac j).then (zZ _ X 5 _) fun k j=>xac j
 have ai:Bw v V:=af.trans (fv.below af.size fun k j=>by omega);have aq:=hid (zA hb1 hb1.size ai);have bi:=hid ai;have am:=hid ah;have bl:Hid (W.heap.size<=X):=by show _<=_;rw [<-hX];exact hb1.size
 have y0:V0.cell? (aa X 0)=some (iu 0):=cz C;have y1:V0.cell? (aa X 1)=some (iu 0):=cz C;have y2:V0.cell? (aa X 2)=some (.bool false):=cz C;have y3:V0.cell? (aa X 3)=some (sc none 0 0):=cz C;have y4:V0.cell? (aa X 4)=some (sc none 0 0):=cz C;have y5:V0.cell? (aa X 5)=some (sc none 0 0):=cz C;have z0:=zaF C;clear C af fv ai hb1 hd ae HE;obtain ⟨M,e0,e2,e3,e4,e5,e6⟩:=az.o (by grind);have ak:Hid (U=y.snap/\J=0/\ac=CK.1/\(⟨Q,Y,ad,O,N,ab⟩:Mx)=y.m/\n.map Cx.ch=CH):=⟨M,e0,e2,e3,e4⟩;have ho:=zC.own_on e5 bi.o;have F:∀z∈n,vS W.heap.size V z:=fun z F=>(e6 z F).on bi.o
 have bn:Bw V (V.drewN 1):=zG (zaR _ V) 1;have ba:Bw W (V.drewN 1):=zG aq.o 1;have ap:Hid (KCx.Own W.heap.size (V.drewN 1) (sc A n.length B) n/\∀z∈n,vS W.heap.size (V.drewN 1) z):=⟨zC.own_on ho bn,fun z q=>(F z q).on bn⟩;have cg:=hid (bt.o (V.drewN 1) A B n ba ap.o.1 ap.o.2 e4);have cE:=au.o V aq.o;have x5:V.cell? (aa X 5)=some (sc A n.length B):=cz ah;have cb:Hid (X<V.heap.size):=(gA ah).1;have df:=hid ba;clear M e0 e2 e3 e4 e5 e6 ho F bn ba bt au az ah;go_upto_region 6 with fail
 (try rw [hX]);(try rw [hV0]);(try rw [hV]);clear y0 y1 y2 y3 y4 y5 z0 hV hV0 hX;refine tkb (S:=fun l=>l.cell? (aa g 2)=some (jp h)/\l.cell? (aa X 5)=some (sc A n.length B)) ⟨cE,x5⟩ fun hC=>?_;refine tkv4 0 1 2 3 (jp g) (jp g) (.pointer (some (aa g 2))) (jp h) hC ?_;simp only [Act.put,sz];refine tkv2 4 5 (.pointer (some (aa X 5))) (sc A n.length B) hC ?_;simp only [Act.put,sz];clear hC cE x5;refine tkc 6 fun K hK=>?_
 go_simp
 refine cg.o.mono ?_;rintro e2 P ⟨rfl,E,q1,q2,q3⟩;obtain ⟨p1,p2⟩:=an.o E (V.drewN 1) P df.o q1 q2 q3;have bv:P.heap[X]? = some (oc #[iu U,iu J,.bool ac,sc Q ad.length Y,sc O ab.length N,sc A n.length B] 131):=(q3.block X (by show X<V.heap.size;exact cb.o) (by show ¬ (c X=2∨c X=5);have:=dg.o X bl.o;omega)).trans am.o;have x5:P.cell? (aa X 5)=some (sc A n.length B):=cz bv;have bd:=hid p2;obtain ⟨⟨ws,we⟩,p⟩:=WR;simp only at *;clear q1 q2 q3 p2 an cg bv;go_wp2_with fail;refine hK.out _ _ (⟨p1,x5⟩) (fun hC=>?_);clear hK K
 try simp only [Act.put,sz]
 refine tkv3 7 8 10 (.tuple #[iu ws,ii we]) (iu ws) (iu ws) hC ?_;simp only [Act.put,sz];refine tkv2 9 11 (ii we) (ii we) hC ?_;simp only [Act.put,sz];refine tkd ?_;clear x5;go_wp2_with fail;refine bd.o.mono ?_;rintro e3 w3 ⟨rfl,hA,hB⟩
 by_cases hwe:we=0
 ·subst hwe;obtain ⟨b1,b2⟩:=hB rfl;have aj:w3.heap[X]? = some (oc #[iu U,iu J,.bool ac,sc Q ad.length Y,sc O ab.length N,sc A n.length B] 131):=(b1 X bl.o (by show X<V.heap.size;exact cb.o)).trans am.o;have HT:=hid (b2 ⟨U,J,ac,⟨Q,Y,ad,O,N,ab⟩,A,B,n⟩ ak.o.1 ak.o.2.2.1 ak.o.2.2.2.1 ak.o.2.2.2.2 (by show 0<=J/\J<=_;rw [ak.o.2.1];decide) ap.o.1 ap.o.2);simp only [yN,Mx.ksl,Mx.rsl,Dx.csl] at HT;have d0:w3.cell? (aa X 0)=some (iu U):=cz aj;have d1:w3.cell? (aa X 1)=some (iu J):=cz aj;have d2:w3.cell? (aa X 2)=some (.bool ac):=cz aj;have d3:w3.cell? (aa X 3)=some (sc Q ad.length Y):=cz aj;have d4:w3.cell? (aa X 4)=some (sc O ab.length N):=cz aj;have d5:w3.cell? (aa X 5)=some (sc A n.length B):=cz aj;clear hA hB b1 b2 aj bd p1 ak ap am;go_wp2_with fail;refine HT.o.mono ?_;rintro e4 w4 ⟨rfl,hq⟩;have HQ:=hid hq;clear hq HT;go_wp2_with fail
  go_ret2
  exact HQ.o
 have dl:(we==0)=false:=by simpa using hwe
 have HQ:=hid (hA hwe);clear hA hB bd p1;go_wp2_with fail
 go_ret2
 exact HQ.o
section
variable {n0:Nat} {Q:Nat→tS} {W w':World} {c:Nat→Nat} {R:tS} {B:Nat→Prop}
structure PB (n0:Nat) (Q:Nat->tS) (W:World) (c:Nat->Nat):Prop where
 good:∀p,bS n0 (Q p)
 part:∀p,Has (Q p) W c p
 out:∀k,W.heap.size<=k->c k=0
def kJ (Q:Nat->tS) (p:Nat) (R:tS):Nat->tS:=fun q=>if q=p then R else Q q
theorem PB.on (h:PB n0 Q W c) (a:Below W.heap.size W w'):PB n0 Q w' c:=⟨h.good,fun p=>(h.part p).fr (h.good p) (Fr.of_below (P:=fun _=>False) a) (fun _ _=>rfl) fun _ _ k=>k.elim,fun k b=>h.out k (zaU a.size b)⟩
theorem PB.add (h:PB n0 Q W c) (f:Below W.heap.size W w') (p:Nat) {R:tS} (b:bS n0 R) {B:Nat->Prop} (d:R w' B) (i:∀k,B k->W.heap.size<=k):∃c',PB n0 (kJ Q p R) w' c'/\∀k,k<W.heap.size->c' k=c k:=by
 refine ⟨lab W B c p,⟨fun q=>?_,fun q=>?_,fun k a=>zAU (zaU f.size a) fun g=>by have:=(b.blk d k g).2;omega⟩,fun k a=>wK a⟩
 ·unfold kJ
  split
  ·exact b
  exact h.good q
 unfold kJ
 split
 ·next e =>
  subst e;exact ⟨B,d,fun k a=>zBw (i k a) a⟩
 exact (h.part q).fr (h.good q) (Fr.of_below (P:=fun _=>False) f) (fun k a=>wK a) fun _ _ k=>k.elim
theorem zQa (n0:Nat) (W:World):PB n0 (fun _=>cO) W (fun _=>0):=⟨fun _=>zAf n0,fun _=>kC _ _ _,fun _ _=>rfl⟩
def PBz (n0:Nat) (Q:Nat->tS) (W:World) (Z:Nat->Prop):Prop:=∃c,PB n0 Q W c/\∀k,Z k->c k=0
theorem PBz.add {Z:Nat->Prop} (h:PBz n0 Q W Z) (f:∀k,Z k->k<W.heap.size) (i:Below W.heap.size W w') (p:Nat) {R:tS} (e:bS n0 R) {B:Nat->Prop} (d:R w' B) (g:∀k,B k->W.heap.size<=k):PBz n0 (kJ Q p R) w' Z:=by
 obtain ⟨c,q,b⟩:=h;obtain ⟨c',q1,q2⟩:=q.add i p e d g;exact ⟨c',q1,fun k a=>(q2 k (f k a)).trans (b k a)⟩
theorem PBz.box {a:World} {M:Nat} (h:PBz n0 Q W (fun k=>k=M)) (f:Fr (fun b=>b=M) W a) (i:∀p,p=0->Q p=cO):∃c,PB n0 Q a c:=by
 obtain ⟨c,q,g⟩:=h;refine ⟨c,q.good,fun p=>?_,fun k d=>q.out k (zaU f.size d)⟩
 by_cases e:p=0
 ·grind [kC]
 exact (q.part p).fr (q.good p) f (fun _ _=>rfl) fun k _ d=>by grind
def uM (n a b:Int):Bool:=decide (a<=n)&&decide (n<=b)
theorem gQ (n a b:Int) (W:World):CC 32 #[.int .i64 n,.int .i64 a,.int .i64 b] W fun e w'=>e=.returned (.bool (uM n a b))/\w'=W:=by
 unfold uM
 by_cases h1:a<=n
 ·by_cases h2:n<=b
  ·rw [xas h1,xas h2];go_enter func32,ntmps32;go_wp2_with fail;go_ret;exact ⟨rfl,rfl⟩
  rw [xas h1,xar h2];go_enter func32,ntmps32;go_wp2_with fail;go_ret;exact ⟨rfl,rfl⟩
 rw [xar h1,Bool.false_and];go_enter func32,ntmps32;go_wp2_with fail;go_ret;exact ⟨rfl,rfl⟩
def zOh (n0 hd hs hc hq ht:Nat) (most first:Int):Nat->tS:=kJ (kJ (kJ (kJ (kJ (fun _=>cO) 2 (zPk n0 hd 0 [])) 5 (bK n0 hs [.int .u64 first] 150)) 6 (bK n0 hc [.int .i64 0] 155)) 4 (zQQ n0 hq [] 0)) 3 (zQD n0 ht (zD3 most))
def zFS (W:World) (vers tracked tries first:Int) (e:Ending) (w':World):Prop:=(pJ vers tracked tries=false/\e=.returned (.tuple #[.pointer none,.int .i64 1])/\Below W.heap.size W w') ∨
 (pJ vers tracked tries=true/\∃h c,e=.returned (.tuple #[.pointer (some ⟨h,0,none⟩),.int .i64 0])/\W.heap.size<=h/\zDa W.heap.size 0 w' h [] (zLc vers tracked first) c/\Below W.heap.size W w')
theorem PB.store {n0:Nat} {W w':World} {c:Nat->Nat} {b hs d hq f:Nat} {a g first:Int} (h:PB n0 (zOh n0 b hs d hq f g first) W c) (v:Below W.heap.size W w') (s:n0<=W.heap.size) (t:w'.heap[W.heap.size]? = some (.cells #[.pointer (some ⟨b,0,none⟩),.pointer (some ⟨hs,0,none⟩),.pointer (some ⟨d,0,none⟩),.pointer (some ⟨hq,0,none⟩),.pointer (some ⟨f,0,none⟩),.int .i64 a] 99 (0,0))) (n:0<=a) (l:a<=4096) (m:0<=first) (o:first<=tD):∃j,zDa n0 0 w' W.heap.size [] (zLc a g first) j:=by
 obtain ⟨j,q,_⟩:=h.add v 1 (R:=bK n0 W.heap.size [jp b,jp hs,jp d,jp hq,jp f,ii a] 99) (fD _ _ _ _) (B:=fun k=>k=W.heap.size) ⟨t,s,fun _=>xbE⟩ (fun k w=>by omega);refine ⟨j,⟨W.heap.size,a,b,hs,d,hq,f,0,[],first,0,0,[],zD3 g,[]⟩,⟨fun p=>?_,q.out⟩,⟨xaE _,xaE _,(fun x r=>by cases r),(fun i hi=>by simp at hi),rfl,zPr n m o,l⟩,rfl,rfl,rfl⟩
 have e:uG n0 ⟨W.heap.size,a,b,hs,d,hq,f,0,[],first,0,0,[],zD3 g,[]⟩ p=kJ (zOh n0 b hs d hq f g first) 1 (bK n0 W.heap.size [jp b,jp hs,jp d,jp hq,jp f,ii a] 99) p:=by
  unfold uG zOh kJ
  by_cases e1:p=1
  ·simp [e1];rfl
  grind
 rw [e];exact q.part p
structure jP (N:Nat) (V:World) (R:Nat->tS) (bx:Option Nat) (u:World):Prop where
 pb:PBz N R u (fun k=>bx=some k)
 bel:Below V.heap.size V u
 box:∀M,bx=some M->u.heap[M]? = some (.cells #[.pointer none,.pointer none,.pointer none,.pointer none,.pointer none] 97 (0,0))/\V.heap.size<=M
section
variable {N M:Nat} {V u u':World} {R:Nat→tS} {bx:Option Nat}
theorem jP.call (x:jP N V R bx u) (p:Nat) {Q:tS} (e:bS N Q) {B:Nat->Prop} (d:Q u' B) (f:∀k,B k->u.heap.size<=k) (b:Below u.heap.size u u'):jP N V (kJ R p Q) bx u':=⟨x.pb.add (fun k g=>(gA (x.box k g).1).1) b p e d f,zA x.bel x.bel.size b,fun M a=>⟨(b.block M (gA (x.box M a).1).1).trans (x.box M a).1,(x.box M a).2⟩⟩
theorem jP.made (x:jP N V R none u):∃M u',Hid (u.heap.size=M/\u.alloc (.cells #[.pointer none,.pointer none,.pointer none,.pointer none,.pointer none] 97)=u')/\Hid (jP N V R (some M) u'):=by
 have a:Bw u (u.alloc (.cells #[.pointer none,.pointer none,.pointer none,.pointer none,.pointer none] 97)):=zaQ;obtain ⟨c,q,_⟩:=x.pb;refine ⟨_,_,hid ⟨rfl,rfl⟩,hid ⟨⟨c,q.on a,fun k b=>?_⟩,zA x.bel x.bel.size a,fun M d=>?_⟩⟩
 ·cases b;exact q.out _ (zaL _)
 cases d;exact ⟨xab u _,x.bel.size⟩
theorem jP.put (x:jP N V R (some M) u) (f:R 0=cO) (cs:List Value) (d:cs.length=5):Hid (u.there M 0 cs.toArray.size)/\∃W4,Hid (u.setCells M 0 cs.toArray.toList=W4)/\Hid (W4.heap[M]? = some (.cells cs.toArray 97 (0,0))/\(∃c,PB N R W4 c)/\Below V.heap.size V W4):=by
 obtain ⟨a,g⟩:=x.box M rfl;obtain ⟨h4,f4⟩:=tH (W:=u.setCells M 0 cs) a (by rw [d];rfl) rfl;have h:=(xQ (cs:=[.pointer none,.pointer none,.pointer none,.pointer none,.pointer none]) a).2;have e:cs.toArray.size=5:=d;obtain ⟨c,q,hq⟩:=x.pb;refine ⟨hid (by grind),_,hid rfl,hid ⟨h4,PBz.box ⟨c,q,fun k b=>hq k (by rw [b])⟩ f4 fun p e=>by grind,x.bel.trans (f4.below x.bel.size fun k b=>by omega)⟩⟩
end
theorem zPG (a b c d e:Addr):(#[.pointer (some a),.pointer (some b),.pointer (some c),.pointer (some d),.pointer (some e)]:Array Value).all (·.oneCell')=true:=xbF fun v f=>by
 simp only [List.mem_cons,List.not_mem_nil,or_false] at f
 rcases f with rfl|rfl|rfl|rfl|rfl<;>rfl
theorem Tryz.partsSize:(prog.info? 97).map (·.size)=some 5:=by kernel_rfl
theorem zE1 (W:World) (i f x y:Int) (h0:0<=y) (h1:y<=tD):CC 8 #[.agg #[.int .i64 i,.int .i64 f,.int .i64 x,.int .u64 y]] W fun e w'=>zFS W i f x y e w':=by
 obtain ⟨V,H⟩:=eE (W.alloc (.cells #[ii i,ii f,ii x,iu y] 26));obtain ⟨Q,hQ⟩:=eE W.heap.size;have af:V.heap[Q]? = some (oc #[ii i,ii f,ii x,iu y] 26):=by rw [<-H,<-hQ];exact xab W _
 have Y:Bw W V:=by rw [<-H];exact zaQ
 have ag:Q<V.heap.size:=(gA af).1
 have C:Hid (∀w',Bw V w'->w'.cell? (aa Q 0)=some (ii i)/\w'.cell? (aa Q 1)=some (ii f)/\w'.cell? (aa Q 2)=some (ii x)/\w'.cell? (aa Q 3)=some (iu y)):=fun w' O=>by
  have q:=(O.block Q ag).trans af;refine ⟨?_,?_,?_,?_⟩<;>rw [zaC q]<;>rfl
 obtain ⟨c0,c1,c2,c3⟩:=C.o V (zaR _ _);have E:=hid (gQ i 1 4096 V);have I:=hid (gQ f 0 64 V);have L:=hid (gQ x 1 8 V)
 have an:pJ i f x=(uM i 1 4096&&uM f 0 64&&uM x 1 8):=by
  unfold pJ uM;simp [Bool.and_assoc]
 have ap:Hid (pJ i f x=false->zFS W i f x y (.returned (.tuple #[.pointer none,ii 1])) V):=fun h=>xac ⟨h,rfl,Y⟩
 have HV:=hid Y;obtain ⟨N,hN⟩:=eE W.heap.size;have F:Hid (N<=V.heap.size):=by show N<=_;rw [<-hN];exact Y.size
 have HD:Hid (∀(R:Nat->tS) (bx:Option Nat) (w:World),jP N V R bx w->CC 33 #[] w fun e w'=>∃g,e=.returned (jp g)/\jP N V (kJ R 2 (zPk N g 0 [])) bx w'):=fun R bx w q=>(zSJ w).mono fun e w' ⟨r1,⟨m,G,r2⟩,r3⟩=>by
  have ae:N<=w.heap.size:=zaU F.o q.bel.size;have hM:xI N w' (w.heap.size+1) m 0 G []:=⟨r2.cell,zaU ae r2.bg,zaU ae r2.bm,r2.map,(fun k A=>absurd rfl A),(fun k1 k2 A=>absurd rfl A),(fun k A=>absurd rfl A),r2.ok,(fun k A=>absurd rfl A),r2.num,r2.few⟩;refine ⟨_,r1,q.call 2 (zGU N _ 0 []) (B:=mJ (w.heap.size+1) m G []) ⟨m,G,hM,fun _=>xbE⟩ (fun k A=>(r2.blk k A).1) r3⟩
 have aj:Hid (∀(R:Nat->tS) (bx:Option Nat) (w:World),jP N V R bx w->CC 34 #[iu y] w fun e w'=>∃g,e=.returned (jp g)/\jP N V (kJ R 5 (bK N g [iu y] 150)) bx w'):=fun R bx w q=>(zNR y w).mono fun e w' ⟨r1,r2,_,r4⟩=>⟨_,r1,q.call 5 (fD N _ _ _) (B:=fun k=>k=w.heap.size) ⟨r2,zaU F.o q.bel.size,fun _=>xbE⟩ (fun k A=>by omega) r4⟩
 have ai:Hid (∀(R:Nat->tS) (bx:Option Nat) (w:World),jP N V R bx w->CC 35 #[] w fun e w'=>∃g,e=.returned (jp g)/\jP N V (kJ R 6 (bK N g [ii 0] 155)) bx w'):=fun R bx w q=>(zOe w).mono fun e w' ⟨r1,r2,_,r4⟩=>⟨_,r1,q.call 6 (fD N _ _ _) (B:=fun k=>k=w.heap.size) ⟨r2,zaU F.o q.bel.size,fun _=>xbE⟩ (fun k A=>by omega) r4⟩
 have ah:Hid (∀(R:Nat->tS) (bx:Option Nat) (w:World),jP N V R bx w->CC 36 #[] w fun e w'=>∃g,e=.returned (jp g)/\jP N V (kJ R 4 (zQQ N g [] 0)) bx w'):=fun R bx w q=>(zLR N w (zaU F.o q.bel.size)).mono fun e w' ⟨B,g,r1,r2,r3,r4⟩=>⟨g,r1,q.call 4 (zGr N g [] 0) (B:=B) r2 r4 r3⟩
 have ao:Hid (∀(R:Nat->tS) (bx:Option Nat) (w:World),jP N V R bx w->CC 37 #[ii f] w fun e w'=>∃g,e=.returned (jp g)/\jP N V (kJ R 3 (zQD N g (zD3 f))) bx w'):=fun R bx w q=>(zMq N w (zaU F.o q.bel.size) f).mono fun e w' ⟨r1,r2,r3⟩=>⟨_,r1,q.call 3 (zC9 N _ _) (B:=kD w.heap.size [] (sc none 0 0)) ⟨[],_,0,r2,rfl⟩ (fun k A=>by
  rcases A with rfl|A|⟨d,j,_⟩
  ·omega
  ·cases A
  cases j) r3⟩
 have aq:=hid hN
 by_cases U:pJ i f x=true
 ·obtain ⟨⟨J,w2⟩,w3⟩:(uM i 1 4096=true/\uM f 0 64=true)/\uM x 1 8=true:=by grind
  rw [J] at E;rw [w2] at I;rw [w3] at L
  have ac:Hid (0<=i/\i<=4096):=by
   unfold uM at J;rw [xaP] at J;have q1:=xaM J.1;have q2:=xaM J.2;exact ⟨by omega,q2⟩
  have al:Hid (∀(wc w':World) (j p s z t:Nat),(∃c,PB N (zOh N j p s z t f y) wc c)->Bw V wc->wc.alloc (.cells #[jp j,jp p,jp s,jp z,jp t,ii i] 99)=w'->zFS W i f x y (.returned (.tuple #[jp wc.heap.size,ii 0])) w'):=fun wc w' j p s z t ⟨c,q⟩ O e=>by
   have ad:Bw wc w':=by rw [<-e];exact zaQ
   have ho:w'.heap[wc.heap.size]? = some (oc #[jp j,jp p,jp s,jp z,jp t,ii i] 99):=by rw [<-e];exact xab wc _
   have ab:Bw W wc:=zA HV.o HV.o.size O;obtain ⟨c',r⟩:=q.store ad (zaU F.o O.size) ho ac.o.1 ac.o.2 h0 h1;refine xaf ⟨U,wc.heap.size,c',rfl,ab.size,by grind,zA ab ab.size ad⟩
  have HR:=hid U;go_enter func8,ntmps8;go_upto_region 1 with fail
  (try rw [H]);(try rw [hQ]);go_wp2_with fail;refine E.o.mono ?_;rintro T V ⟨rfl,rfl⟩;go_wp2_with fail;refine I.o.mono ?_;rintro eb V ⟨rfl,rfl⟩;go_wp2_with fail;refine L.o.mono ?_;rintro ed V ⟨rfl,rfl⟩;go_upto_region 3 with fail
  go_cut [4] from 5 (fun v4 Z=>∃M j p s z t,v4=jp M/\Hid (Z.heap[M]? = some (oc #[jp j,jp p,jp s,jp z,jp t] 97)/\(∃c,PB N (zOh N j p s z t f y) Z c)/\Bw V Z))
  case first =>
   refine tkb (S:=fun w'=>w'.cell? (aa Q 0)=some (ii i)/\w'.cell? (aa Q 1)=some (ii f)/\w'.cell? (aa Q 2)=some (ii x)/\w'.cell? (aa Q 3)=some (iu y)) ⟨c0,c1,c2,c3⟩ fun hA=>?_;refine tkv4 1 2 6 7 (.pointer (some (aa Q 3))) (iu y) (.pointer (some (aa Q 1))) (ii f) hA ?_;simp only [Act.put,sz];have a:Hid (jP N V (fun _=>cO) none V.drew):=hid ⟨⟨_,zQa N _,fun _ h=>by cases h⟩,zG (zaR _ V) 1,fun _ h=>by cases h⟩
   generalize V.drew=u at *
   refine xaA (rs:=[0,10]) (by kernel_rfl) (by simp) ?_;refine xao (zB rfl) (fun K b=>?_) (xao (zB rfl) (fun K b=>?_) xau)
   focus
    rw [xae (by rfl)]
    go_simp
   rotate_left
   focus
    rw [xae (by rfl)]
    go_simp
    obtain ⟨M,v,l,n⟩:=a.o.made;go_wp2_with fail;rw [l.o.1,l.o.2];refine b.out _ _ (C.o _ n.o.bel) (fun hA=>?_)
    try simp only [Act.put,sz]
    have a:=hid n.o
   all_goals try (refine tkc 0 fun K b=>?_;go_simp)
   all_goals
    refine (HD.o _ _ _ a.o).mono ?_;rintro e v ⟨j,rfl,D⟩;have a:=hid D;go_wp2_with fail;refine b.out _ _ (C.o _ a.o.bel) (fun hA=>?_)
    try simp only [Act.put,sz]
   rotate_right
   refine xaA (rs:=[3,10]) (by kernel_rfl) (by simp) ?_;refine xao (zB rfl) (fun K b=>?_) (xao (zB rfl) (fun K b=>?_) xau)
   focus
    rw [xae (by rfl)]
    go_simp
   rotate_left
   focus
    rw [xae (by rfl)]
    go_simp
    obtain ⟨M,v,l,n⟩:=a.o.made;go_wp2_with fail;rw [l.o.1,l.o.2];refine b.out _ _ (C.o _ n.o.bel) (fun hA=>?_)
    try simp only [Act.put,sz]
    have a:=hid n.o
   all_goals try (refine tkc 3 fun K b=>?_;go_simp)
   all_goals
    refine (aj.o _ _ _ a.o).mono ?_;rintro e v ⟨p,rfl,D⟩;have a:=hid D;go_wp2_with fail;refine b.out _ _ (C.o _ a.o.bel) (fun hA=>?_)
    try simp only [Act.put,sz]
   rotate_right
   refine xaA (rs:=[4,10]) (by kernel_rfl) (by simp) ?_;refine xao (zB rfl) (fun K b=>?_) (xao (zB rfl) (fun K b=>?_) xau)
   focus
    rw [xae (by rfl)]
    go_simp
   rotate_left
   focus
    rw [xae (by rfl)]
    go_simp
    obtain ⟨M,v,l,n⟩:=a.o.made;go_wp2_with fail;rw [l.o.1,l.o.2];refine b.out _ _ (C.o _ n.o.bel) (fun hA=>?_)
    try simp only [Act.put,sz]
    have a:=hid n.o
   all_goals try (refine tkc 4 fun K b=>?_;go_simp)
   all_goals
    refine (ai.o _ _ _ a.o).mono ?_;rintro e v ⟨s,rfl,D⟩;have a:=hid D;go_wp2_with fail;refine b.out _ _ (C.o _ a.o.bel) (fun hA=>?_)
    try simp only [Act.put,sz]
   rotate_right
   refine xaA (rs:=[5,10]) (by kernel_rfl) (by simp) ?_;refine xao (zB rfl) (fun K b=>?_) (xao (zB rfl) (fun K b=>?_) xau)
   focus
    rw [xae (by rfl)]
    go_simp
   rotate_left
   focus
    rw [xae (by rfl)]
    go_simp
    obtain ⟨M,v,l,n⟩:=a.o.made;go_wp2_with fail;rw [l.o.1,l.o.2];refine b.out _ _ (C.o _ n.o.bel) (fun hA=>?_)
    try simp only [Act.put,sz]
    have a:=hid n.o
   all_goals try (refine tkc 5 fun K b=>?_;go_simp)
   all_goals
    refine (ah.o _ _ _ a.o).mono ?_;rintro e v ⟨z,rfl,D⟩;have a:=hid D;go_wp2_with fail;refine b.out _ _ (C.o _ a.o.bel) (fun hA=>?_)
    try simp only [Act.put,sz]
   rotate_right
   refine xaA (rs:=[8,10]) (by kernel_rfl) (by simp) ?_;refine xao (zB rfl) (fun K b=>?_) (xao (zB rfl) (fun K b=>?_) xau)
   focus
    rw [xae (by rfl)]
    go_simp
   rotate_left
   focus
    rw [xae (by rfl)]
    go_simp
    obtain ⟨M,v,l,n⟩:=a.o.made;go_wp2_with fail;rw [l.o.1,l.o.2];refine b.out _ _ (C.o _ n.o.bel) (fun hA=>?_)
    try simp only [Act.put,sz]
    have a:=hid n.o
   all_goals try (refine tkc 8 fun K b=>?_;go_simp)
   all_goals
    refine (ao.o _ _ _ a.o).mono ?_;rintro e v ⟨t,rfl,D⟩;have a:=hid D;go_wp2_with fail;refine b.out _ _ (C.o _ a.o.bel) (fun hA=>?_)
    try simp only [Act.put,sz]
   rotate_right
   all_goals
    refine tkv 9 (.agg #[jp j,jp p,jp s,jp z,jp t]) hA ?_;simp only [Act.put,sz]
   refine xaA (rs:=[10]) (by kernel_rfl) (by simp) ?_;refine xao (zB rfl) (fun K b=>?_) xau
   focus
    rw [xae (by rfl)]
    go_simp
    obtain ⟨M,v,l,n⟩:=a.o.made;go_wp2_with fail;rw [l.o.1,l.o.2];refine b.out _ _ (C.o _ n.o.bel) (fun hA=>?_)
    try simp only [Act.put,sz]
    have a:=hid n.o
   all_goals
    obtain ⟨ak,W4,am,P⟩:=a.o.put rfl [jp j,jp p,jp s,jp z,jp t] rfl;refine tkc 11 fun K b=>?_;refine xbH 97 _ _ rfl M 0 #[jp j,jp p,jp s,jp z,jp t] rfl rfl ak.o Tryz.partsSize (zPG _ _ _ _ _) ?_;rw [am.o];refine b.out _ _ (C.o _ P.o.2.2) (fun hA=>?_)
    try simp only [Act.put,sz]
    refine tkd ?_;go_wp2_with fail;go_meet;exact ⟨M,j,p,s,z,t,rfl,P.o⟩
  obtain ⟨M,j,p,s,z,t,rfl,HC⟩:=hcut;obtain ⟨hm,hpb,hbc⟩:=HC.o;obtain ⟨k0,_,_,_⟩:=C.o wc hbc;have m0:wc.cell? (aa M 0)=some (jp j):=cz hm;have m1:wc.cell? (aa M 1)=some (jp p):=cz hm;have m2:wc.cell? (aa M 2)=some (jp s):=cz hm;have m3:wc.cell? (aa M 3)=some (jp z):=cz hm;have m4:wc.cell? (aa M 4)=some (jp t):=cz hm;obtain ⟨w',hw'⟩:∃w',wc.alloc (.cells #[jp j,jp p,jp s,jp z,jp t,ii i] 99)=w':=⟨_,rfl⟩;have P:=hid (al.o wc w' j p s z t hpb hbc hw');go_wp2_with fail;(try rw [hw'])
  go_ret2
  exact P.o
 have hr':pJ i f x=false:=by simpa using U
 have X:=hid (ap.o hr');rw [an] at hr'
 cases e1:uM i 1 4096 with
 | false =>
  rw [e1] at E;go_enter func8,ntmps8;go_upto_region 1 with fail
  (try rw [H]);(try rw [hQ]);go_wp2_with fail;refine E.o.mono ?_;rintro T V ⟨rfl,rfl⟩;go_wp2_with fail
  go_ret2
  exact X.o
 | true =>
 rw [e1] at E
 cases e2:uM f 0 64 with
 | false =>
  rw [e2] at I;go_enter func8,ntmps8;go_upto_region 1 with fail
  (try rw [H]);(try rw [hQ]);go_wp2_with fail;refine E.o.mono ?_;rintro T V ⟨rfl,rfl⟩;go_wp2_with fail;refine I.o.mono ?_;rintro eb V ⟨rfl,rfl⟩;go_wp2_with fail
  go_ret2
  exact X.o
 | true =>
 rw [e2] at I
 have e3:uM x 1 8=false:=by
  rw [e1,e2] at hr'
  simpa using hr'
 rw [e3] at L;go_enter func8,ntmps8;go_upto_region 1 with fail
 (try rw [H]);(try rw [hQ]);go_wp2_with fail;refine E.o.mono ?_;rintro T V ⟨rfl,rfl⟩;go_wp2_with fail;refine I.o.mono ?_;rintro eb V ⟨rfl,rfl⟩;go_wp2_with fail;refine L.o.mono ?_;rintro ed V ⟨rfl,rfl⟩;go_wp2_with fail
 go_ret2
 exact X.o
end
section
variable {n0 nr i:Nat} {W:World} {s:Ps} {c:Nat→Nat} {y:Px}
theorem Mid.then {w j:World} {l:Nat->Nat} {a:Mx} (f:xF nr s) (E:s.xs[i]? = some y) (t:y.ended=false) (m:Mid n0 (nr+1) W s c { s with xs:=s.xs.set i { y with m:=a } } l w) {B:Nat->Prop} (F:qP n0 w B y.gw y.L) (C:∀k,B k->l k=8+3 * i) {b:List yI} (G:tJ n0 w B y.gw b j) (H:b.length<=y.L.length+1) (u:OkX s.D s.floor s.last ⟨y.snap,y.ended,a.mk',b⟩):uN n0 (nr+1) W s.h (s.xs.map Px.g) c (yA s.sv i ⟨y.snap,y.ended,a.mk',b⟩) j/\∀k,k<w.heap.size->l k≠8+3 * i->j.heap[k]? = w.heap[k]?:=by
 obtain ⟨hi,rfl⟩:=gL E;have hi':i<(s.xs.set i { s.xs[i] with m:=a }).length:=by rw [xaW];exact hi
 have p:(s.xs.set i { s.xs[i] with m:=a })[i]'hi'={ s.xs[i] with m:=a }:=by simp
 obtain ⟨r,o,n,v⟩:=m.prg.wrote (i:=i) hi' (by grind) (B:=B) (L':=b) (w':=j) (by grind) C (by grind)
 have z:({ ({ s with xs:=s.xs.set i { s.xs[i] with m:=a } }:Ps) with xs:=({ s with xs:=s.xs.set i { s.xs[i] with m:=a } }:Ps).xs.set i { (({ s with xs:=s.xs.set i { s.xs[i] with m:=a } }:Ps).xs[i]'hi') with L:=b } }:Ps)={ s with xs:=s.xs.set i { s.xs[i] with m:=a,L:=b } }:=by
  show ({ s with xs:=(s.xs.set i { s.xs[i] with m:=a }).set i { ((s.xs.set i { s.xs[i] with m:=a })[i]'hi') with L:=b } }:Ps)=_
  rw [p,List.set_set]
 rw [z] at o
 have q:({ s.xs[i] with m:=a }:Px)∈s.xs.set i { s.xs[i] with m:=a }:=by
  have:=zaN hi';rw [p] at this;exact this
 have x:=m.fit.mks _ q t;refine ⟨⟨r,⟨_,o,?_,rfl,zG5 _ i hi _ rfl,uC _ _ _⟩,?_,fun k d=>(v k (zaT d m.fr.size)).trans (m.lab k d)⟩,fun k d A=>n.block k d A⟩
 ·refine f.setX hi _ (xax _) ?_ x rfl rfl rfl u
  grind [Px.load]
 refine m.fr.then n fun k d=>?_
 by_cases e:k<W.heap.size
 ·refine xac ?_;have:=m.lab k e;omega
 omega
theorem zGq (x:zS n0 W s c) (f:xF nr s) (hn:nr<=1000000000000) {i:Nat} {y:Px} (hy:s.xs[i]? = some y) (k:Ky) (hk:yE k):CC 44 #[.pointer (some ⟨y.g,0,none⟩),.agg #[.string k.1,.string k.2]] W fun e b=>XsE n0 (nr+1) W s.h (s.xs.map Px.g) c (vC s.D y.tx k).1 (yA s.sv i (vC s.D y.tx k).2) e b:=by
 obtain ⟨V,hV⟩:=eE (W.alloc (.cells #[tq k.1,tq k.2] 36));obtain ⟨Q,hQ⟩:=eE W.heap.size;have h1:V.heap[Q]? = some (oc #[tq k.1,tq k.2] 36):=by rw [<-hV,<-hQ];exact xab W _
 have az:Bw W V:=by rw [<-hV];exact zaQ
 have bi:V.heap.size=Q+1:=by rw [<-hV,<-hQ];simp
 have HV:=hid az;have ac:Hid (V.heap.size=Q+1/\W.heap.size=Q):=⟨bi,hQ⟩;have HX:=hid x;have HF:=hid f;have T:=hid hy;have HK:=hid hk;have HN:=hid hn
 have N:Hid (∀W':World,W'.heap[Q]? = V.heap[Q]?->W'.cell? (aa Q 0)=some (tq k.1)/\W'.cell? (aa Q 1)=some (tq k.2)):=fun W' hW=>by
  have n:=hW.trans h1;exact ⟨by rw [zaC n];rfl,by rw [zaC n];rfl⟩
 obtain ⟨a0,a1⟩:=N.o V rfl;have X:=hid (tW ((x.on az).endis hy) k hk);obtain ⟨RS,hRS⟩:=eE (vC s.D y.tx k);rw [hRS];have bm:=hid hRS
 have ae:Hid (OkX s.D s.floor s.last RS.2):=by
  show OkX _ _ _ _
  rw [<-hRS];exact zHf (f.okw hy) k
 have ai:Hid (vR y.ended k≠0->RS=(vR y.ended k,y.tx)):=fun h=>by
  rw [<-hRS];unfold vC vR at *
  cases hE:y.ended with
  | true =>
   rw [xae (show y.tx.ended=true from hE)];rfl
  | false =>
  rw [hE] at h;rw [xag (show ¬ y.tx.ended=true by show ¬ y.ended=true;grind)]
  grind
 have ak:Hid (vR y.ended k=0->y.ended=false/\RS=if ((isS s.D y.tx k).getD zeroV).live=false then (6,pU y.tx k) else if ((xT s.D y.snap k).getD zeroV).live=false then (0,{ pU y.tx k with wr:=qX y.L k }) else (0,{ pU y.tx k with wr:=pB y.L k none })):=fun h=>by
  rw [<-hRS];unfold vR at h
  cases hE:y.ended with
  | true=>grind
  | false =>
  rw [hE,xag (by decide)] at h
  by_cases hkb:xN k.1 k.2=false
  ·grind
  refine ⟨rfl,?_⟩;unfold vC;rw [xag (show ¬ y.tx.ended=true by show ¬ y.ended=true;grind),xag hkb];rfl
 have bh:vR y.ended k=0->xN k.1 k.2=true:=fun h=>by grind [vR]
 have an:=hid bh;clear x f hk hn h1 az bi hRS bh;obtain ⟨j,d⟩:=k;simp only at *;obtain ⟨RF,hRF⟩:=eE (vR y.ended (j,d));rw [hRF] at X ai ak an;clear hRF;obtain ⟨g,hg⟩:=eE y.g;rw [hg] at X ⊢
 by_cases hrf:RF=0
 ·subst hrf;obtain ⟨bg,C⟩:=ak.o rfl;have ab:=hid bg;have M:=hid C;have bu:=hid (an.o rfl);clear C bg ak ai an bm
  have bn:Hid (∀p,Bw W p->CC 77 #[jp g,.agg #[tq j,tq d]] p fun e b=>∃m' c',e=.returned (.tuple #[])/\m'.mk'=kA y.m.mk' (j,d)/\Mid n0 (nr+1) W s c { s with xs:=s.xs.set i { y with m:=m' } } c' b/\(∀k,k<p.heap.size->c' k=c k)/\p.heap.size<=b.heap.size/\∀k,k<p.heap.size->k≠y.g->b.heap[k]? = p.heap[k]?):=fun p l=>by
   rw [<-hg];exact Mid.key HX.o HF.o (by have:=HN.o;omega) T.o ab.o l (j,d) HK.o
  have bj:Hid (y.g<Q):=by
   show y.g<Q
   rw [<-hQ];exact (gA (HX.o.xat T.o ab.o).x).1
  go_enter func44,ntmps44
  go_upto_region 1 with fail
  (try rw [hV]);(try rw [hQ]);go_wp2_with fail;refine X.o.mono ?_;rintro e1 p ⟨rfl,U⟩;have bf:=hid U;have bk:=hid (bn.o p (zA HV.o HV.o.size U));obtain ⟨b0,b1⟩:=N.o p (U.block Q (by have:=ac.o;omega));clear U X a0 a1 bn;go_wp2_with fail;refine bk.o.mono ?_;rintro e2 w2 ⟨m',c2,rfl,hmk,hmid,hc2,hsz2,hbk⟩;have bx:V.heap.size<=p.heap.size:=bf.o.size;have ad:w2.heap[Q]? = V.heap[Q]?:=(hbk Q (by have:=ac.o;omega) (by have:=bj.o;omega)).trans (bf.o.block Q (by have:=ac.o;omega));obtain ⟨d0,d1⟩:=N.o w2 ad
  have R:Hid (w2.heap[Q]? = V.heap[Q]?/\Q<w2.heap.size/\c2 Q=0):=by
   have e1:=ac.o;exact ⟨ad,by omega,(hc2 _ (by omega)).trans (HX.o.out _ (by omega))⟩
  have bl:=hid hmid;have hy':=zIL (z:={ y with m:=m' }) T.o;obtain ⟨B,hw,hB⟩:=hmid.prg.wrt hy' ab.o;have xa:=hmid.prg.xat hy' ab.o;have bp:s.nv<=nr:=by have:=HF.o.room;omega
  have au:Hid (CC 78 #[jp g,.agg #[tq j,tq d]] w2 fun e b=>vZ w2 (isS s.D y.tx (j,d)) e b):=by
   rw [<-hg];exact zDT xa hmid.prg.dirS (by show s.nv<=_;have:=HN.o;omega) hw y.ended y.m.mk' (j,d) HK.o
  have aw:Hid (∀w,Bw w2 w->CC 88 #[jp g,.agg #[tq j,tq d]] w fun e b=>vZ w (xT s.D y.snap (j,d)) e b):=fun w l=>by
   rw [<-hg];exact gO (xa.on l) (hmid.prg.dirS.on l) (j,d) HK.o
  have bq:Hid (∀w,Bw w2 w->w.cell? (aa g 3)=some (jp y.gw)):=fun w l=>by
   rw [<-hg];exact (xa.on l).xc.2.2.2.1
  have bv:c2 y.g=7+3 * i:=by
   have bt:y.g<p.heap.size:=by have:=bj.o;have:=ac.o;omega
   rw [hc2 y.g bt];obtain ⟨hi,rfl⟩:=gL T.o;exact (HX.o.txo i hi).2.2
  have aj:∀w,Bw w2 w->qP n0 w B y.gw y.L:=fun w l=>by
   obtain ⟨mm,F,O,hu⟩:=hw;exact ⟨mm,F,O,hu.on l⟩
  have bw:=HF.o.lod T.o ab.o
  have af:Hid (∀(L':List yI) (w b:World),Bw w2 w->tJ n0 w B y.gw L' b->L'.length<=y.L.length+1->OkX s.D s.floor s.last ⟨y.snap,y.ended,kA y.m.mk' (j,d),L'⟩->uN n0 (nr+1) W s.h (s.xs.map Px.g) c (yA s.sv i ⟨y.snap,y.ended,kA y.m.mk' (j,d),L'⟩) b/\b.heap[Q]? = V.heap[Q]?/\b.cell? (aa g 3)=w.cell? (aa g 3)):=fun L' w b l v hL u=>by
   rw [<-hmk] at u;obtain ⟨n,r⟩:=Mid.then HF.o T.o ab.o (hmid.on l) (aj w l) hB v hL u
   rw [hmk] at n;refine ⟨n,?_,?_⟩
   ·rw [r Q (zaT R.o.2.1 l.size) (by rw [R.o.2.2];omega),l.block Q R.o.2.1];omega
   have bs:y.g<w2.heap.size:=(gA xa.x).1;refine xap (a:=(aa g 3)) ?_;show b.heap[g]? = w.heap[g]?;rw [<-hg];exact r y.g (zaT bs l.size) (by omega)
  have am:Hid (∀w,Bw w2 w->CC 89 #[jp y.gw,.agg #[tq j,tq d]] w fun e b=>e=.returned (.bool (yH y.L (j,d)).isSome)/\tJ n0 w B y.gw (qX y.L (j,d)) b):=fun w l=>zFt (aj w l) (j,d) HK.o
  have al:Hid (∀w,Bw w2 w->CC 90 #[jp y.gw,.agg #[tq j,tq d]] w fun e b=>e=.returned (ii 0)/\tJ n0 w B y.gw (pB y.L (j,d) none) b):=fun w l=>(zMw (aj w l) (zaU hmid.prg.base l.size) (by have:=HN.o;omega) (j,d) HK.o).mono fun e b q=>by
   obtain ⟨n,r⟩:=zHa (j,d) bu.o y.L;rw [n,r] at q;exact q
  have ar:Hid (∀w,Bw w2 w->uN n0 (nr+1) W s.h (s.xs.map Px.g) c (yA s.sv i (pU y.tx (j,d))) w):=fun w l=>(bl.o.on l).step (by
   rw [uC];show yA s.sv i ⟨y.snap,y.ended,m'.mk',y.L⟩=_;rw [hmk];rfl)
  clear hmk hmid hc2 hbk hsz2 xa hw hB aj bp ad b0 b1 bk hy' bv bw bl;obtain ⟨o,u⟩:=eE (isS s.D y.tx (j,d));rw [u] at au M;obtain ⟨o2,ho2⟩:=eE (xT s.D y.snap (j,d));rw [ho2] at aw M;clear u ho2
  generalize y.gw=gw at *
  go_wp2_with fail
  refine au.o.mono ?_;rintro e3 w3 ⟨z,rfl,hv,_,ax⟩;have H:Hid (z.live=(o.getD zeroV).live):=by show _=_;rw [<-hv];rfl
  clear hv au d0 d1;obtain ⟨yn,ys,yt,yl,yp,yc,yo⟩:=z;simp only [zF,Vx.sl] at *;obtain ⟨B1,hB1⟩:∃B,w3.heap.size=B:=⟨_,rfl⟩;obtain ⟨A1,hA1⟩:∃A,w3.alloc (.cells #[ii 0,iu 0,ii 0,.bool false,sc none 0 0] 42)=A:=⟨_,rfl⟩;have J:A1.heap[B1]? = some (oc #[ii 0,iu 0,ii 0,.bool false,sc none 0 0] 42):=by rw [<-hA1,<-hB1];exact xab w3 _
  have ba:Bw w3 A1:=by rw [<-hA1];exact zaQ
  obtain ⟨I,bd⟩:=eE ((((((A1.setCell (aa B1 0) (ii yn)).setCell (aa B1 1) (iu ys)).setCell (aa B1 2) (ii yt)).setCell (aa B1 3) (.bool yl)).setCell (aa B1 4) (sc yp yo.length yc)));obtain ⟨hx1,fx1⟩:=vB J ⟨yn,ys,yt,yl,yp,yc,yo⟩ I bd;have be:Bw w3 I:=ba.trans (fx1.below ba.size fun k hk=>by omega);have y0:A1.cell? (aa B1 0)=some (ii 0):=cz J;have y1:A1.cell? (aa B1 1)=some (iu 0):=cz J;have y2:A1.cell? (aa B1 2)=some (ii 0):=cz J;have y3:A1.cell? (aa B1 3)=some (.bool false):=cz J;have y4:A1.cell? (aa B1 4)=some (sc none 0 0):=cz J;have z0:=zaF J;have l1:I.cell? (aa B1 3)=some (.bool yl):=cz hx1;have E:Bw w2 I:=zA ax ax.size be;have bc:=hid E;obtain ⟨d0,d1⟩:=N.o I ((E.block Q R.o.2.1).trans R.o.1);have aq:=hid (aw.o I E);clear ax ba J hx1 fx1 be E aw;go_upto_region 6 with fail
  (try rw [hB1]);(try rw [hA1]);(try rw [bd]);clear y0 y1 y2 y3 y4 z0 hA1 hB1 bd
  cases yl with
  | false =>
   have ay:Hid (XsE n0 (nr+1) W s.h (s.xs.map Px.g) c RS.1 (yA s.sv i RS.2) (.returned (ii 6)) I):=by
    show XsE _ _ _ _ _ _ _ _ _ _
    rw [M.o,xae H.o.symm];exact ⟨rfl,ar.o I bc.o⟩
   clear ar af am al aq M H;go_wp2_with fail;go_ret;exact ay.o
  | true =>
  have ah:Hid (RS=if (o2.getD zeroV).live=false then (0,{ pU y.tx (j,d) with wr:=qX y.L (j,d) }) else (0,{ pU y.tx (j,d) with wr:=pB y.L (j,d) none })):=by
   show _=_
   rw [M.o,xag (by rw [<-H.o];decide)]
  clear M H ar;go_wp2_with fail;refine aq.o.mono ?_;rintro e4 w4 ⟨z,rfl,hv,_,bb⟩;have H:Hid (z.live=(o2.getD zeroV).live):=by show _=_;rw [<-hv];rfl
  clear hv aq d0 d1 l1;obtain ⟨xn,xs,xt,xl,xp,xc,xo⟩:=z;simp only [zF,Vx.sl] at *;obtain ⟨B2,hB2⟩:∃B,w4.heap.size=B:=⟨_,rfl⟩;obtain ⟨A2,hA2⟩:∃A,w4.alloc (.cells #[ii 0,iu 0,ii 0,.bool false,sc none 0 0] 42)=A:=⟨_,rfl⟩;have P:A2.heap[B2]? = some (oc #[ii 0,iu 0,ii 0,.bool false,sc none 0 0] 42):=by rw [<-hA2,<-hB2];exact xab w4 _
  have ap:Bw w4 A2:=by rw [<-hA2];exact zaQ
  obtain ⟨t,av⟩:=eE ((((((A2.setCell (aa B2 0) (ii xn)).setCell (aa B2 1) (iu xs)).setCell (aa B2 2) (ii xt)).setCell (aa B2 3) (.bool xl)).setCell (aa B2 4) (sc xp xo.length xc)));obtain ⟨hx2,fx2⟩:=vB P ⟨xn,xs,xt,xl,xp,xc,xo⟩ t av;have bo:Bw w4 t:=ap.trans (fx2.below ap.size fun k hk=>by omega);have y0:A2.cell? (aa B2 0)=some (ii 0):=cz P;have y1:A2.cell? (aa B2 1)=some (iu 0):=cz P;have y2:A2.cell? (aa B2 2)=some (ii 0):=cz P;have y3:A2.cell? (aa B2 3)=some (.bool false):=cz P;have y4:A2.cell? (aa B2 4)=some (sc none 0 0):=cz P;have z0:=zaF P;have l2:t.cell? (aa B2 3)=some (.bool xl):=cz hx2;have E:Bw w2 t:=zA bc.o bc.o.size (zA bb bb.size bo);have br:=hid E;have ad:=(E.block Q R.o.2.1).trans R.o.1;obtain ⟨d0,d1⟩:=N.o t ad;have Z:=bq.o t E;clear bb ap P hx2 fx2 bo E;go_upto_region 9 with fail
  (try rw [hB2]);(try rw [hA2]);(try rw [av]);clear y0 y1 y2 y3 y4 z0 hA2 hB2 av;have Y:Bw w2 (t.drewN 1):=zG br.o 1
  cases xl with
  | false =>
   have C:RS=(0,{ pU y.tx (j,d) with wr:=qX y.L (j,d) }):=by rw [ah.o,xae H.o.symm]
   have ag:Hid (∀b,tJ n0 (t.drewN 1) B gw (qX y.L (j,d)) b->XsE n0 (nr+1) W s.h (s.xs.map Px.g) c RS.1 (yA s.sv i RS.2) (.returned (ii 0)) b/\b.heap[Q]? = V.heap[Q]?/\b.cell? (aa g 3)=some (jp gw)):=fun b v=>by
    have u:=ae.o;rw [C] at u;obtain ⟨n,r,G⟩:=af.o (qX y.L (j,d)) (t.drewN 1) b Y v (zaU (zGZ _ _) (xax _)) u;rw [C];exact ⟨⟨rfl,n⟩,r,G.trans Z⟩
   have HC:=hid (am.o (t.drewN 1) Y);clear C af am al ah H ae Y;go_upto_region 10 with fail
   refine tkb (S:=fun b=>b.cell? (aa Q 0)=some (tq j)/\b.cell? (aa Q 1)=some (tq d)/\b.cell? (aa g 3)=some (jp gw)) ⟨d0,d1,Z⟩ fun hA=>?_;refine tkv3 0 1 2 (jp g) (jp g) (.pointer (some (aa g 3))) hA ?_;simp only [Act.put,sz];refine tkv2 3 4 (jp gw) (.agg #[tq j,tq d]) hA ?_;simp only [Act.put,sz];clear hA d0 d1 Z;refine tkc 5 fun K hK=>?_
   go_simp
   refine HC.o.mono ?_;rintro e5 w5 ⟨rfl,v⟩;obtain ⟨n,r,G⟩:=ag.o w5 v;obtain ⟨d0,d1⟩:=N.o w5 r;have ao:=hid n;clear v n r ag HC;go_wp2_with fail;refine hK.out _ _ (⟨d0,d1,G⟩) (fun hA=>?_);clear hK K
   try simp only [Act.put,sz]
   refine tkd ?_;clear d0 d1 G;go_wp2_with fail;go_ret;exact ao.o
  | true =>
  have C:RS=(0,{ pU y.tx (j,d) with wr:=pB y.L (j,d) none }):=by rw [ah.o,xag (by rw [<-H.o];decide)]
  have ag:Hid (∀b,tJ n0 (t.drewN 1) B gw (pB y.L (j,d) none) b->XsE n0 (nr+1) W s.h (s.xs.map Px.g) c RS.1 (yA s.sv i RS.2) (.returned (ii 0)) b/\b.heap[Q]? = V.heap[Q]?/\b.cell? (aa g 3)=some (jp gw)):=fun b v=>by
   have u:=ae.o;rw [C] at u;obtain ⟨n,r,G⟩:=af.o (pB y.L (j,d) none) (t.drewN 1) b Y v (zFf _ _ _) u;rw [C];exact ⟨⟨rfl,n⟩,r,G.trans Z⟩
  have HC:=hid (al.o (t.drewN 1) Y);clear C af am al ah H ae Y;go_upto_region 12 with fail
  refine tkb (S:=fun b=>b.cell? (aa Q 0)=some (tq j)/\b.cell? (aa Q 1)=some (tq d)/\b.cell? (aa g 3)=some (jp gw)) ⟨d0,d1,Z⟩ fun hA=>?_;refine tkv3 0 1 2 (jp g) (jp g) (.pointer (some (aa g 3))) hA ?_;simp only [Act.put,sz];refine tkv2 3 4 (jp gw) (.agg #[tq j,tq d]) hA ?_;simp only [Act.put,sz];clear hA d0 d1 Z;refine tkc 5 fun K hK=>?_
  go_simp
  refine HC.o.mono ?_;rintro e5 w5 ⟨rfl,v⟩;obtain ⟨n,r,G⟩:=ag.o w5 v;obtain ⟨d0,d1⟩:=N.o w5 r;have ao:=hid n;clear v n r ag HC;go_wp2_with fail;refine hK.out _ _ (⟨d0,d1,G⟩) (fun hA=>?_);clear hK K
  try simp only [Act.put,sz]
  refine tkv 6 (ii 0) hA ?_;simp only [Act.put,sz];refine tkd ?_;clear d0 d1 G;go_wp2_with fail;go_ret;exact ao.o
 have M:=hid (ai.o hrf);have bz:(RF==0)=false:=by simpa using hrf
 clear ai ak an bm ae hrf;go_enter func44,ntmps44;go_upto_region 1 with fail
 (try rw [hV]);(try rw [hQ]);go_wp2_with fail;refine X.o.mono ?_;rintro e1 p ⟨rfl,U⟩
 have ay:Hid (XsE n0 (nr+1) W s.h (s.xs.map Px.g) c RS.1 (yA s.sv i RS.2) (.returned (ii RF)) p):=by
  show XsE _ _ _ _ _ _ _ _ _ _
  rw [M.o];exact ⟨rfl,(Mid.start HX.o HF.o (xax nr) (zA HV.o HV.o.size U)).step (xC (qU T.o)).symm⟩
 clear U X N a0 a1;go_wp2_with fail;go_ret;exact ay.o
end
theorem mM (N:Nat) (W:World):zW N W (.slice none 0 0) []:=vO N W
theorem pG:yW []:=(xJ (o:=[]) pC).1
theorem zDz {n0 u:Nat} {W:World} {s:Ps} {c:Nat->Nat} (x:zS n0 W s c) (f:xF u s) (hn:u<=2000000000000) {i:Nat} {y:Px} (hy:s.xs[i]? = some y) (k:Ky) (n:yE k):CC 31 #[.pointer (some ⟨y.g,0,none⟩),.agg #[.string k.1,.string k.2]] W fun e F=>XsV n0 (u+1) W s.h (s.xs.map Px.g) c (tM s.D y.tx k).1 (yA s.sv i (tM s.D y.tx k).2) e F:=by
 obtain ⟨al,h1,h2,aj⟩:=vD W #[tq k.1,tq k.2] #[ii 0,iu 0,ii 0,.bool false,sc none 0 0] 36 42;obtain ⟨V,hV⟩:=eE ((W.alloc (.cells #[tq k.1,tq k.2] 36)).alloc (.cells #[ii 0,iu 0,ii 0,.bool false,sc none 0 0] 42));obtain ⟨Q,hQ⟩:=eE W.heap.size;rw [hV] at al h1 h2 aj;rw [hQ] at h1 h2 aj;have HV:=hid al;have S:Hid (V.heap.size=Q+2):=aj;have bn:Hid (W.heap.size=Q):=hQ;have U:=hid x;have HF:=hid f;have HY:=hid hy;have HK:=hid n;have HN:=hid hn
 have T:Hid (∀W':World,(∀b,b=Q∨b=Q+1->W'.heap[b]? = V.heap[b]?)->(W'.cell? (aa Q 0)=some (tq k.1)/\W'.cell? (aa Q 1)=some (tq k.2))/\W'.heap[Q+1]? = some (oc #[ii 0,iu 0,ii 0,.bool false,sc none 0 0] 42)):=fun W' hW=>by
  have r:=(hW Q (xac rfl)).trans h1;have q2:=(hW (Q+1) (xaf rfl)).trans h2;exact ⟨⟨by rw [zaC r];rfl,by rw [zaC r];rfl⟩,q2⟩
 obtain ⟨⟨a0,a1⟩,_⟩:=T.o V fun _ _=>rfl
 have J:=hid (tW ((x.on al).endis hy) k n);obtain ⟨l,av⟩:=eE (tM s.D y.tx k);rw [av];have aw:=hid av;clear x f n hn h1 h2 al aj av;obtain ⟨ka,kb⟩:=k;simp only at *
 have ai:Hid (y.ended=true->vR y.ended (ka,kb)=12/\l=((none,12),y.tx)):=fun h=>by
  refine ⟨by rw [h];rfl,?_⟩;rw [<-aw.o];unfold tM;rw [xae (show y.tx.ended=true from h)]
 have ac:Hid (y.ended=false->xN ka kb=false->vR y.ended (ka,kb)=2/\l=((none,2),y.tx)):=fun h h'=>by
  refine ⟨by rw [h];unfold vR;simp [h'],?_⟩;rw [<-aw.o];unfold tM;rw [xag (show ¬ y.tx.ended=true by show ¬ y.ended=true;rw [h];decide),xae h']
 have af:Hid (y.ended=false->xN ka kb=true->vR y.ended (ka,kb)=0/\l=((isS s.D y.tx (ka,kb),if (isS s.D y.tx (ka,kb)).isSome then 0 else 6),pU y.tx (ka,kb))):=fun h h'=>by
  refine ⟨by rw [h];unfold vR;simp [h'],?_⟩;rw [<-aw.o];unfold tM;rw [xag (show ¬ y.tx.ended=true by show ¬ y.ended=true;rw [h];decide),xag (by show ¬ xN ka kb=false;rw [h'];decide)]
 obtain ⟨EN,ap⟩:=eE y.ended;obtain ⟨KB,hKB⟩:=eE (xN ka kb);have am:=hid ap;rw [ap] at J ai ac af;rw [hKB] at ac af;obtain ⟨g,hg⟩:=eE y.g;rw [hg] at J ⊢;clear ap hKB hy
 have aq:EN=true∨KB=false->CC 31 #[jp g,.agg #[tq ka,tq kb]] W fun e F=>XsV n0 (u+1) W s.h (s.xs.map Px.g) c l.1 (yA s.sv i l.2) e F:=fun bb=>by
  obtain ⟨K,ay,bq,ah⟩:∃K:Int,vR EN (ka,kb)=K/\K≠0/\l=((none,K),y.tx):=by
   cases hE:EN with
   | true =>
    obtain ⟨r,q2⟩:=ai.o hE;rw [hE] at r;exact ⟨12,r,by decide,q2⟩
   | false =>
   rcases bb with h|h
   ·rw [hE] at h;cases h
   obtain ⟨r,q2⟩:=ac.o hE h;rw [hE] at r;exact ⟨2,r,by decide,q2⟩
  have ag:Hid (l=((none,K),y.tx)):=ah;rw [ay] at J;have bu:(K==0)=false:=by simpa using bq
  clear ai ac af bb ah ay bq;go_enter func31,ntmps31;go_upto_region 1 with fail
  (try rw [hV]);(try rw [hQ]);go_wp2_with fail;refine J.o.mono ?_;rintro e1 j ⟨rfl,M⟩;have ab:=hid M;obtain ⟨_,a⟩:=T.o j fun b hb=>M.block b (by have:=S.o;omega)
  clear M J T a0 a1;obtain ⟨d,R⟩:=eE ((((((j.setCell (aa (Q+1) 0) (ii 0)).setCell (aa (Q+1) 1) (iu 0)).setCell (aa (Q+1) 2) (ii 0)).setCell (aa (Q+1) 3) (.bool false)).setCell (aa (Q+1) 4) (sc none 0 0)));obtain ⟨hbz,fz⟩:=vB a ⟨0,0,0,false,none,0,[]⟩ d R;have y0:j.cell? (aa (Q+1) 0)=some (ii 0):=cz a;have y1:j.cell? (aa (Q+1) 1)=some (iu 0):=cz a;have y2:j.cell? (aa (Q+1) 2)=some (ii 0):=cz a;have y3:j.cell? (aa (Q+1) 3)=some (.bool false):=cz a;have y4:j.cell? (aa (Q+1) 4)=some (sc none 0 0):=cz a;have z0:=zaF a;have g0:d.cell? (aa (Q+1) 0)=some (ii 0):=cz hbz;have Z:d.cell? (aa (Q+1) 1)=some (iu 0):=cz hbz;have g2:d.cell? (aa (Q+1) 2)=some (ii 0):=cz hbz;have g3:d.cell? (aa (Q+1) 3)=some (.bool false):=cz hbz;have g4:d.cell? (aa (Q+1) 4)=some (sc none 0 0):=cz hbz
  have ad:Hid (XsV n0 (u+1) W s.h (s.xs.map Px.g) c l.1 (yA s.sv i l.2) (.returned (.tuple #[.agg #[ii 0,iu 0,ii 0,.bool false,sc none 0 0],ii K])) d):=by
   show XsV _ _ _ _ _ _ _ _ _ _
   rw [ag.o];have r:W.heap.size<=Q+1:=by have:=bn.o;omega
   have q:=(Mid.start U.o HF.o (xax u) (zA HV.o HV.o.size ab.o)).box fz (U.o.out _ r) r;refine ⟨⟨0,0,0,false,none,0,[]⟩,W.heap.size,rfl,rfl,mM _ _,pG,q.stepN (xC (qU HY.o)).symm (zaL _) fun k n=>U.o.out k n⟩
  clear hbz fz a;go_wp2_with fail;(try rw [R]);exact zaB (v:=.tuple #[.agg #[ii 0,iu 0,ii 0,.bool false,sc none 0 0],ii K]) (by simp [results,results31,go_sem,g0,Z,g2,g3,g4]) rfl ad.o
 cases EN with
 | true=>exact aq (xac rfl)
 | false =>
 cases KB with
 | false=>exact aq (xaf rfl)
 | true =>
 obtain ⟨bm,ah⟩:=af.o rfl rfl;rw [bm] at J;have ag:=hid ah;clear bm ah aq ai ac af
 have bp:Hid (∀j,Bw W j->CC 77 #[jp g,.agg #[tq ka,tq kb]] j fun e F=>∃Y c',e=.returned (.tuple #[])/\Y.mk'=kA y.m.mk' (ka,kb)/\Mid n0 (u+1) W s c { s with xs:=s.xs.set i { y with m:=Y } } c' F/\(∀k,k<j.heap.size->c' k=c k)/\j.heap.size<=F.heap.size/\∀k,k<j.heap.size->k≠y.g->F.heap[k]? = j.heap[k]?):=fun j hb=>by
  rw [<-hg];exact Mid.key U.o HF.o (by have:=HN.o;omega) HY.o am.o hb (ka,kb) HK.o
 have bi:Hid (y.g<Q):=by
  show y.g<Q
  rw [<-hQ];exact (gA (U.o.xat HY.o am.o).x).1
 go_enter func31,ntmps31
 go_upto_region 1 with fail
 (try rw [hV]);(try rw [hQ]);go_wp2_with fail;refine J.o.mono ?_;rintro e1 j ⟨rfl,M⟩;have ab:=hid M;have bj:=hid (bp.o j (zA HV.o HV.o.size M));obtain ⟨⟨b0,b1⟩,_⟩:=T.o j fun b hb=>M.block b (by have:=S.o;omega)
 clear M J a0 a1 bp;go_wp2_with fail;refine bj.o.mono ?_;rintro e2 w ⟨Y,c2,rfl,bd,ae,bf,bs,an⟩;have bt:V.heap.size<=j.heap.size:=ab.o.size;obtain ⟨⟨d0,d1⟩,_⟩:=T.o w fun b hb=>(an b (by have:=S.o;omega) (by have:=bi.o;omega)).trans (ab.o.block b (by have:=S.o;omega))
 have bh:w.heap[Q+1]? = some (oc #[ii 0,iu 0,ii 0,.bool false,sc none 0 0] 42):=(T.o w fun b hb=>(an b (by have:=S.o;omega) (by have:=bi.o;omega)).trans (ab.o.block b (by have:=S.o;omega))).2;have bg:=hid bh
 have O:Hid (c2 (Q+1)=0/\Q+2<=w.heap.size/\W.heap.size<=Q+1):=by
  have e1:=S.o;have e2:=bn.o;exact ⟨(bf _ (by omega)).trans (U.o.out _ (by omega)),by omega,by omega⟩
 have ak:=hid ae;have hy':=zIL (z:={ y with m:=Y }) HY.o;obtain ⟨B,hw,_⟩:=ae.prg.wrt hy' am.o;have xa:=ae.prg.xat hy' am.o;have br:s.nv<=u:=by have:=HF.o.room;omega
 have bc:=hid (zDT xa ae.prg.dirS (by show s.nv<=_;have:=HN.o;omega) hw y.ended y.m.mk' (ka,kb) HK.o)
 have ba:Hid (Ps.sv { s with xs:=s.xs.set i { y with m:=Y } }=yA s.sv i (pU y.tx (ka,kb))):=by
  show _=_
  rw [uC];show yA s.sv i ⟨y.snap,y.ended,Y.mk',y.L⟩=_;rw [bd];rfl
 have bl:Hid (∀v,isS s.D y.tx (ka,kb)=some v->yZ v.val=true):=fun v hv=>zJA HF.o.ok (by
  obtain ⟨hi,rfl⟩:=gL HY.o;exact (HF.o.okx hi).wr) (ka,kb) hv
 have ax:Hid (CC 78 #[jp g,.agg #[tq ka,tq kb]] w fun e F=>vZ w (isS s.D y.tx (ka,kb)) e F):=by
  rw [<-hg];exact bc.o
 clear bd ae bf an bs xa hw bc br bh T b0 b1 bj hy';obtain ⟨o,ho⟩:=eE (isS s.D y.tx (ka,kb));rw [ho] at ax ag bl;clear ho;go_wp2_with fail;refine ax.o.mono ?_;rintro e3 w3 ⟨z,rfl,hv,hj,hb3⟩;obtain ⟨X,hX⟩:=eE w3.heap.size;obtain ⟨W4,hW4⟩:=eE (w3.alloc (.cells #[ii 0,iu 0,ii 0,.bool false,sc none 0 0] 42));have N:W4.heap[X]? = some (oc #[ii 0,iu 0,ii 0,.bool false,sc none 0 0] 42):=by rw [<-hW4,<-hX];exact xab w3 _
 have ar:Bw w3 W4:=by rw [<-hW4];exact zaQ
 have be:=hid hv;clear hv ax d0 d1;obtain ⟨C,I,E,H,A,t,p⟩:=z;simp only [zF,Vx.sl] at *;obtain ⟨W5,hW5⟩:=eE ((((((W4.setCell (aa X 0) (ii C)).setCell (aa X 1) (iu I)).setCell (aa X 2) (ii E)).setCell (aa X 3) (.bool H)).setCell (aa X 4) (sc A p.length t)));obtain ⟨G,fx⟩:=vB N ⟨C,I,E,H,A,t,p⟩ W5 hW5;have y0:W4.cell? (aa X 0)=some (ii 0):=cz N;have y1:W4.cell? (aa X 1)=some (iu 0):=cz N;have y2:W4.cell? (aa X 2)=some (ii 0):=cz N;have y3:W4.cell? (aa X 3)=some (.bool false):=cz N;have y4:W4.cell? (aa X 4)=some (sc none 0 0):=cz N;have z0:=zaF N;have ao:Bw w3 W5:=ar.trans (fx.below ar.size fun k n=>by omega);have au:Bw w W5:=zA hb3 hb3.size ao;have az:=hid au;have bk:Hid (zW w.heap.size W5 (sc A p.length t) p):=yC (P:=fun _=>False) hj (Fr.of_below ao) fun _ _ f=>f
 have a:W5.heap[Q+1]? = some (oc #[ii 0,iu 0,ii 0,.bool false,sc none 0 0] 42):=(au.block _ (by have:=O.o;omega)).trans bg.o;have bo:=hid G;clear G fx ar ao au hj hb3 N bg;go_upto_region 6 with fail
 (try rw [hX]);(try rw [hW4]);(try rw [hW5]);clear y0 y1 y2 y3 y4 z0;have G:=bo.o;have d0:W5.cell? (aa X 0)=some (ii C):=cz G;have d1:W5.cell? (aa X 1)=some (iu I):=cz G;have d2:W5.cell? (aa X 2)=some (ii E):=cz G;have d3:W5.cell? (aa X 3)=some (.bool H):=cz G;have d4:W5.cell? (aa X 4)=some (sc A p.length t):=cz G;clear G bo
 cases o with
 | none =>
  obtain ⟨d,R⟩:=eE ((((((W5.setCell (aa (Q+1) 0) (ii 0)).setCell (aa (Q+1) 1) (iu 0)).setCell (aa (Q+1) 2) (ii 0)).setCell (aa (Q+1) 3) (.bool false)).setCell (aa (Q+1) 4) (sc none 0 0)));obtain ⟨hbz,fz⟩:=vB a ⟨0,0,0,false,none,0,[]⟩ d R;have y0:W5.cell? (aa (Q+1) 0)=some (ii 0):=cz a;have y1:W5.cell? (aa (Q+1) 1)=some (iu 0):=cz a;have y2:W5.cell? (aa (Q+1) 2)=some (ii 0):=cz a;have y3:W5.cell? (aa (Q+1) 3)=some (.bool false):=cz a;have y4:W5.cell? (aa (Q+1) 4)=some (sc none 0 0):=cz a;have z0:=zaF a;have g0:d.cell? (aa (Q+1) 0)=some (ii 0):=cz hbz;have Z:d.cell? (aa (Q+1) 1)=some (iu 0):=cz hbz;have g2:d.cell? (aa (Q+1) 2)=some (ii 0):=cz hbz;have g3:d.cell? (aa (Q+1) 3)=some (.bool false):=cz hbz;have g4:d.cell? (aa (Q+1) 4)=some (sc none 0 0):=cz hbz
  have ad:Hid (XsV n0 (u+1) W s.h (s.xs.map Px.g) c l.1 (yA s.sv i l.2) (.returned (.tuple #[.agg #[ii 0,iu 0,ii 0,.bool false,sc none 0 0],ii 6])) d):=by
   show XsV _ _ _ _ _ _ _ _ _ _
   rw [ag.o];have q:=(ak.o.on az.o).box fz O.o.1 O.o.2.2;exact ⟨⟨0,0,0,false,none,0,[]⟩,w.heap.size,rfl,rfl,mM _ _,pG,q.stepN ba.o (by have:=O.o;omega) fun k n=>ak.o.prg.out k n⟩
  clear hbz fz a;go_wp2_with fail;(try rw [R]);exact zaB (v:=.tuple #[.agg #[ii 0,iu 0,ii 0,.bool false,sc none 0 0],ii 6]) (by simp [results,results31,go_sem,g0,Z,g2,g3,g4]) rfl ad.o
 | some v0 =>
 obtain ⟨d,R⟩:=eE ((((((W5.setCell (aa (Q+1) 0) (ii C)).setCell (aa (Q+1) 1) (iu I)).setCell (aa (Q+1) 2) (ii E)).setCell (aa (Q+1) 3) (.bool H)).setCell (aa (Q+1) 4) (sc A p.length t)));obtain ⟨hbz,fz⟩:=vB a ⟨C,I,E,H,A,t,p⟩ d R;have y0:W5.cell? (aa (Q+1) 0)=some (ii 0):=cz a;have y1:W5.cell? (aa (Q+1) 1)=some (iu 0):=cz a;have y2:W5.cell? (aa (Q+1) 2)=some (ii 0):=cz a;have y3:W5.cell? (aa (Q+1) 3)=some (.bool false):=cz a;have y4:W5.cell? (aa (Q+1) 4)=some (sc none 0 0):=cz a;have z0:=zaF a;have g0:d.cell? (aa (Q+1) 0)=some (ii C):=cz hbz;have Z:d.cell? (aa (Q+1) 1)=some (iu I):=cz hbz;have g2:d.cell? (aa (Q+1) 2)=some (ii E):=cz hbz;have g3:d.cell? (aa (Q+1) 3)=some (.bool H):=cz hbz;have g4:d.cell? (aa (Q+1) 4)=some (sc A p.length t):=cz hbz
 have ad:Hid (XsV n0 (u+1) W s.h (s.xs.map Px.g) c l.1 (yA s.sv i l.2) (.returned (.tuple #[.agg #[ii C,iu I,ii E,.bool H,sc A p.length t],ii 0])) d):=by
  show XsV _ _ _ _ _ _ _ _ _ _
  rw [ag.o];have q:=(ak.o.on az.o).box fz O.o.1 O.o.2.2;refine ⟨⟨C,I,E,H,A,t,p⟩,w.heap.size,rfl,be.o,yC bk.o fz fun k n e=>by have:=(yL bk.o k n).1;have:=O.o;omega,(xJ (by rw [show p.map Fx.fld=v0.val from xad Vr.val be.o];exact bl.o v0 rfl)).1,q.stepN ba.o (by have:=O.o;omega) fun k n=>ak.o.prg.out k n⟩
 clear hbz fz a;go_wp2_with fail;(try rw [R]);exact zaB (v:=.tuple #[.agg #[ii C,iu I,ii E,.bool H,sc A p.length t],ii 0]) (by simp [results,results31,go_sem,g0,Z,g2,g3,g4]) rfl ad.o
section
variable {c:Nat→Nat} {nr' k i g:Nat} {b:Obj} {t:Tx}
structure Sto (W0:World) (Z:List (Nat × Obj)) (nr h:Nat) (gs:List Nat) (S:Sv) (w:World):Prop where
 ex:∃c,zDa W0.heap.size nr w h gs S c/\(∀k,k<W0.heap.size->c k=0)/\∀p∈Z,w.heap[p.1]? = some p.2/\c p.1=0
 bel:Below W0.heap.size W0 w
theorem zDa.low {n0 nr:Nat} {W:World} {h:Nat} {gs:List Nat} {S:Sv} (x:zDa n0 nr W h gs S c):∃c',zDa n0 nr W h gs S c'/\(∀k,k<n0->c' k=0):=by
 obtain ⟨s,p,f,j,e,l⟩:=x;refine ⟨fun k=>if k<n0 then 0 else c k,⟨s,⟨fun q=>?_,fun k a=>?_⟩,f,j,e,l⟩,fun k a=>xae a⟩
 ·obtain ⟨B,d,m⟩:=p.part q;refine ⟨B,d,fun k a=>?_⟩;have:=((zFR n0 s q).blk d k a).1
  grind
 show (if k<n0 then 0 else c k)=0
 rw [p.out k a]
 split<;>rfl
section
variable {W0:World} {Z:List (Nat × Obj)} {nr h:Nat} {gs:List Nat} {S:Sv} {w w':World}
theorem uN.sto {r:List Nat} {l:Sv} (v:uN W0.heap.size nr' w h r c l w') (y:∀k,k<W0.heap.size->c k=0) (x:∀p∈Z,w.heap[p.1]? = some p.2/\c p.1=0) (a:Below W0.heap.size W0 w):Sto W0 Z nr' h r l w':=by
 obtain ⟨s,q,f,j⟩:=v;refine ⟨⟨s,q,fun k d=>(j k (zaT d a.size)).trans (y k d),fun p u=>?_⟩,a.trans (f.below a.size fun k d=>?_)⟩
 ·obtain ⟨m,n⟩:=x p u;have o:=(gA m).1;exact ⟨(f.block p.1 o fun e=>e n).trans m,(j _ o).trans n⟩
 grind
theorem Sto.on (x:Sto W0 Z nr h gs S w) (d:Below w.heap.size w w'):Sto W0 Z nr h gs S w':=by
 obtain ⟨c,⟨s,p,f,j,m,l⟩,n,e⟩:=x.ex;exact ⟨⟨c,⟨s,p.on d,f,j,m,l⟩,n,fun q a=>⟨(d.block _ (gA (e q a).1).1).trans (e q a).1,(e q a).2⟩⟩,zA x.bel x.bel.size d⟩
theorem Sto.pin (x:Sto W0 Z nr h gs S w) (d:Below w.heap.size w w') {k:Nat} {b:Obj} (l:w.heap.size<=k) (o:w'.heap[k]? = some b):Sto W0 ((k,b)::Z) nr h gs S w':=by
 have y:=x.on d;obtain ⟨c,⟨s,p,f,j,n,r⟩,m,e⟩:=x.ex;refine ⟨⟨c,⟨s,p.on d,f,j,n,r⟩,m,fun q a=>?_⟩,y.bel⟩
 rcases List.mem_cons.1 a with rfl|a
 ·exact ⟨o,p.out _ l⟩
 exact ⟨(d.block _ (gA (e q a).1).1).trans (e q a).1,(e q a).2⟩
theorem Sto.got (x:Sto W0 Z nr h gs S w) {k:Nat} {b:Obj} (d:(k,b)∈Z):w.heap[k]? = some b:=by
 obtain ⟨c,_,_,a⟩:=x.ex
 grind
theorem Sto.mono (x:Sto W0 Z nr h gs S w) (j:nr<=nr'):Sto W0 Z nr' h gs S w:=by
 obtain ⟨c,⟨s,p,f,l,d,a⟩,m,e⟩:=x.ex;exact ⟨⟨c,⟨s,p,f.mono j,l,d,a⟩,m,e⟩,x.bel⟩
theorem qS {s:Ps} (a:(s.xs.map Px.g)[i]? = some g) (d:s.sv.txs[i]? = some t):∃y,s.xs[i]? = some y/\y.g=g/\y.tx=t:=by
 rw [xby] at a;have ht':(s.xs.map Px.tx)[i]? = some t:=d
 grind
theorem zJb (W0:World) (f d j a:Int) (o:0<=a) (s:a<=tD) (x:pJ f d j=true):CC 8 #[.agg #[.int .i64 f,.int .i64 d,.int .i64 j,.int .u64 a]] W0 fun e w'=>∃h,e=.returned (.tuple #[.pointer (some ⟨h,0,none⟩),.int .i64 0])/\Sto W0 [] 0 h [] (zLc f d a) w':=by
 refine (zE1 W0 f d j a o s).mono fun e w' q=>?_
 rcases q with ⟨q,_⟩|⟨_,h,c,v,_,q,u⟩
 ·grind
 obtain ⟨l,m,n⟩:=q.low;exact ⟨h,v,⟨l,m,n,fun p r=>by cases r⟩,u⟩
theorem zHo (w:World) (j d f a:Int) (l:0<=a) (m:a<=tD) (n:pJ j d f=false):CC 8 #[.agg #[.int .i64 j,.int .i64 d,.int .i64 f,.int .u64 a]] w fun e w'=>e=.returned (.tuple #[.pointer none,.int .i64 1])/\Below w.heap.size w w':=by
 refine (zE1 w j d f a l m).mono fun e w' q=>?_
 rcases q with ⟨_,q⟩|⟨q,_⟩
 ·exact q
 grind
theorem zAe (x:Sto W0 Z nr h gs S w) (j:nr<=2000000000000):CC 10 #[.pointer (some ⟨h,0,none⟩)] w fun e w'=>∃g,e=.returned (.pointer (some ⟨g,0,none⟩))/\Sto W0 Z (nr+1) h (gs++[g]) (vG S) w':=by
 obtain ⟨⟨c,⟨s,p,f,rfl,rfl,rfl⟩,l,d⟩,a⟩:=x;refine (zHr p f j).mono ?_;rintro e w' ⟨g,rfl,_,st⟩;exact ⟨g,rfl,st.sto l d a⟩
theorem zEe (x:Sto W0 Z nr h gs S w) (r:nr<=1000000000000) {i g:Nat} {t:Tx} (z:gs[i]? = some g) (m:S.txs[i]? = some t) (k:Ky) (l:yE k) (v:Value) (o:List Fx) (a:List Fld) (u:wH w v o) (j:yW o) (n:o.map Fx.fld=a):CC 30 #[.pointer (some ⟨g,0,none⟩),.agg #[.string k.1,.string k.2],v] w fun e w'=>e=.returned (.int .i64 (wA t k a).1)/\Sto W0 Z (nr+1) h gs (yA S i (wA t k a).2) w':=by
 obtain ⟨⟨c,⟨s,p,f,rfl,rfl,rfl⟩,A,q⟩,d⟩:=x;obtain ⟨y,hy,rfl,rfl⟩:=qS z m;refine (zNJ p f r hy k l v o a u j n).mono ?_;rintro e w' ⟨rfl,st⟩;exact ⟨rfl,st.sto A q d⟩
theorem zHy (x:Sto W0 Z nr h gs S w) (m:nr<=1000000000000) {i g:Nat} {t:Tx} (n:gs[i]? = some g) (j:S.txs[i]? = some t) (k:Ky) (d:yE k):CC 44 #[.pointer (some ⟨g,0,none⟩),.agg #[.string k.1,.string k.2]] w fun e w'=>e=.returned (.int .i64 (vC S.D t k).1)/\Sto W0 Z (nr+1) h gs (yA S i (vC S.D t k).2) w':=by
 obtain ⟨⟨c,⟨s,p,f,rfl,rfl,rfl⟩,o,l⟩,a⟩:=x;obtain ⟨y,hy,rfl,rfl⟩:=qS n j;refine (zGq p f m hy k d).mono ?_;rintro e w' ⟨rfl,st⟩;exact ⟨rfl,st.sto o l a⟩
theorem zMm (x:Sto W0 Z nr h gs S w) (m:nr<=2000000000000) {i g:Nat} {t:Tx} (n:gs[i]? = some g) (j:S.txs[i]? = some t) (k:Ky) (d:yE k):CC 31 #[.pointer (some ⟨g,0,none⟩),.agg #[.string k.1,.string k.2]] w fun e w'=>∃v:Vx,e=.returned (.tuple #[.agg (zF v).toArray,.int .i64 (tM S.D t k).1.2])/\v.ver=(tM S.D t k).1.1.getD zeroV/\Sto W0 Z (nr+1) h gs (yA S i (tM S.D t k).2) w':=by
 obtain ⟨⟨c,⟨s,p,f,rfl,rfl,rfl⟩,o,l⟩,a⟩:=x;obtain ⟨y,hy,rfl,rfl⟩:=qS n j;refine (zDz p f m hy k d).mono ?_;rintro e w' ⟨v,N,rfl,hv,_,_,st⟩;exact ⟨v,rfl,hv,st.step.sto o l a⟩
theorem bF (x:Sto W0 Z nr h gs S w) (l:nr<=1300000000000) {i g:Nat} {t:Tx} (m:gs[i]? = some g) (d:S.txs[i]? = some t):CC 20 #[.pointer (some ⟨g,0,none⟩)] w fun e w'=>e=.returned (.tuple #[.int .u64 (zU S i t).1.1,.int .i64 (zU S i t).1.2])/\Sto W0 Z nr h gs (zU S i t).2 w':=by
 obtain ⟨⟨c,⟨s,p,f,rfl,rfl,rfl⟩,n,j⟩,a⟩:=x;obtain ⟨y,hy,rfl,rfl⟩:=qS m d;refine (zGk p f l hy).mono ?_;rintro e w' ⟨rfl,st⟩;exact ⟨rfl,st.sto n j a⟩
theorem mR (x:Sto W0 Z nr h gs S w) (j:nr<=2000000000000):CC 27 #[.pointer (some ⟨h,0,none⟩)] w fun e w'=>e=.returned (.tuple #[.int .u64 (zP S),.int .i64 (tL S.D (zP S):Nat)])/\Sto W0 Z nr h gs (uH S) w':=by
 obtain ⟨⟨c,⟨s,p,f,rfl,rfl,rfl⟩,l,d⟩,a⟩:=x;refine (zGp p f j).mono ?_;rintro e w' ⟨rfl,st⟩;exact ⟨rfl,st.sto l d a⟩
theorem zHE (x:Sto W0 Z nr h gs S w) (k:Ky) (a:yE k) (t:Int):CC 22 #[.pointer (some ⟨h,0,none⟩),.agg #[.string k.1,.string k.2],.int .u64 t] w fun e w'=>∃v:Vx,e=.returned (.tuple #[.agg (zF v).toArray,.bool (atV (ofD S.D k) t).isSome])/\v.ver=(atV (ofD S.D k) t).getD zeroV/\Sto W0 Z nr h gs S w':=by
 have d:=x;obtain ⟨⟨c,⟨s,p,f,rfl,rfl,rfl⟩,m,l⟩,j⟩:=x;refine (zA9 p.stat p.dirS k a t).mono ?_;rintro e w' ⟨v,rfl,hv,_,hb1⟩;exact ⟨v,rfl,hv,d.on hb1⟩
theorem mL (x:Sto W0 Z nr h gs S w) (l:nr<=2000000000000):CC 18 #[.pointer (some ⟨h,0,none⟩)] w fun e w'=>e=.returned (.int .i64 (zT S.D:Nat))/\Sto W0 Z nr h gs S w':=by
 have a:=x;obtain ⟨⟨c,⟨s,p,f,rfl,rfl,rfl⟩,m,j⟩,d⟩:=x;exact (zB7 p.stat p.dirS (by have:=f.room;omega)).mono fun e w' q=>⟨q.1,a.on q.2⟩
theorem zBW (x:Sto W0 Z nr h gs S w):CC 25 #[.pointer (some ⟨h,0,none⟩)] w fun e w'=>e=.returned (.int .i64 (S.tk.kept.length:Nat))/\Sto W0 Z nr h gs S w':=by
 have a:=x;obtain ⟨⟨c,⟨s,p,f,rfl,rfl,rfl⟩,l,j⟩,d⟩:=x;obtain ⟨B,hT,_⟩:=p.trk;exact (zDi p.stat hT).mono fun e w' q=>⟨q.1,a.on q.2⟩
theorem pV (x:Sto W0 Z nr h gs S w):CC 17 #[.pointer (some ⟨h,0,none⟩)] w fun e w'=>e=.returned (.int .u64 S.last)/\Sto W0 Z nr h gs S w':=by
 have a:=x;obtain ⟨⟨c,⟨s,p,f,rfl,rfl,rfl⟩,l,j⟩,d⟩:=x;exact (zJ0 p.stat p.cnt.1).mono fun e w' q=>⟨q.1,a.on q.2⟩
theorem zAx (x:Sto W0 Z nr h gs S w):CC 26 #[.pointer (some ⟨h,0,none⟩)] w fun e w'=>e=.returned (.int .u64 S.floor)/\Sto W0 Z nr h gs S w':=by
 have a:=x;obtain ⟨⟨c,⟨s,p,f,rfl,rfl,rfl⟩,l,j⟩,d⟩:=x;obtain ⟨B,hT,_⟩:=p.snp;exact (tO p.stat hT).mono fun e w' q=>⟨q.1,a.on q.2⟩
theorem zCV (x:Sto W0 Z nr h gs S w):CC 24 #[.pointer (some ⟨h,0,none⟩)] w fun e w'=>e=.returned (.int .i64 (yY (xR S):Nat))/\Sto W0 Z nr h gs S w':=by
 have a:=x;obtain ⟨⟨c,⟨s,p,f,rfl,rfl,rfl⟩,l,j⟩,d⟩:=x;obtain ⟨B,hT,_⟩:=p.snp;refine (zJC p.stat hT).mono fun e w' q=>⟨?_,a.on q.2⟩
 rw [q.1,f.os]
theorem fW (x:Sto W0 Z nr h gs S w) {i g:Nat} {t:Tx} (d:gs[i]? = some g) (a:S.txs[i]? = some t):CC 21 #[.pointer (some ⟨g,0,none⟩)] w fun e w'=>e=.returned (.bool t.ended)/\w'=w:=by
 obtain ⟨⟨c,⟨s,p,f,rfl,rfl,rfl⟩,m,l⟩,j⟩:=x;obtain ⟨y,hy,rfl,rfl⟩:=qS d a;exact p.endis hy w (zaR _ _)
end
end
def g15:Ky:=(⟨#[65]⟩,⟨#[97]⟩)
def v15:List Fld:=[(⟨#[110]⟩,[⟨#[49]⟩])]
def fx0:Sv:=vG (vG (zLc 9 4 0))
def fx1:Tx:=(wA (jA 0) g15 v15).2
def fx2:Sv:=yA fx0 0 fx1
def fx3:Sv:=(zU fx2 0 fx1).2
def fx4:Tx:=(tM fx3.D (jA 0) g15).2
def fx5:Sv:=yA fx3 1 fx4
def fx6:Tx:=(wA fx4 g15 []).2
def fx7:Sv:=yA fx5 1 fx6
def fx8:Sv:=(zU fx7 1 fx6).2
def fx9:Sv:=uH fx8
theorem zH4:pJ 9 4 1=true/\pJ 0 0 0=false:=⟨rfl,rfl⟩
theorem zQM:yY (xR fx0)=2:=rfl
theorem zQr:(wA (jA 0) g15 v15).1=0:=by decide +kernel
theorem zRS:(zU fx2 0 fx1).1=(1,0):=by decide +kernel
theorem zP7:(tM fx3.D (jA 0) g15).1.2=6:=by decide +kernel
theorem zPn:(zU fx7 1 fx6).1=(0,11):=by decide +kernel
theorem zOp:(atV (ofD fx8.D g15) 1).isSome=true/\((atV (ofD fx8.D g15) 1).getD zeroV).num=1:=by decide +kernel
theorem zMa:zP fx8=1:=by decide +kernel
theorem zF4:zT fx9.D=1/\fx9.last=1/\fx9.floor=1/\fx9.tk.kept.length=1:=by decide +kernel
theorem zRm:fx0.txs[0]? = some (jA 0):=rfl
theorem zRo:fx2.txs[0]? = some fx1:=rfl
theorem zSA:fx3.txs[1]? = some (jA 0):=by kernel_rfl
theorem zSH:fx5.txs[1]? = some fx4:=by kernel_rfl
theorem zSK:fx7.txs[1]? = some fx6:=by kernel_rfl
theorem zRz:(fx9.txs[0]?).map Tx.ended=some true:=by kernel_rfl
theorem zSM:(fx9.txs[1]?).map Tx.ended=some true:=by kernel_rfl
theorem zGf {l:List Tx} {i:Nat} (h:(l[i]?).map Tx.ended=some true):∃t,l[i]? = some t/\t.ended=true:=by grind
theorem zHG (W:World):CC 29 #[] W fun e l=>e=.returned (.agg #[.int .i64 9,.int .i64 4,.int .i64 1,.int .u64 0])/\Below W.heap.size W l:=by
 obtain ⟨V,f⟩:∃V,W.alloc (.cells #[ii 0,ii 0,ii 0,iu 0] 26)=V:=⟨_,rfl⟩;obtain ⟨M,hM⟩:∃M,W.z=M:=⟨_,rfl⟩;have b:V.heap[M]? = some (.cells #[ii 0,ii 0,ii 0,iu 0] 26 (0,0)):=by rw [<-f,<-hM];exact xab W _
 have g:Below W.z W V:=by rw [<-f];exact zaQ
 obtain ⟨a,d⟩:∃a,(((V.setCell (aa M 0) (ii 9)).setCell (aa M 1) (ii 4)).setCell (aa M 2) (ii 1)).setCell (aa M 3) (iu 0)=a:=⟨_,rfl⟩
 have c:a.heap[M]? = some (.cells #[ii 9,ii 4,ii 1,iu 0] 26 (0,0)):=by
  rw [<-d];exact xaa _ M 3 _ _ _ (xaa _ M 2 _ _ _ (xaa _ M 1 _ _ _ (xaa _ M 0 _ _ _ b)))
 have j:Hid (Below W.z W a):=by
  show Below _ _ _
  rw [<-d,hM];rw [hM] at g;exact (((g.setCell (by simp) _).setCell (by simp) _).setCell (by simp) _).setCell (by simp) _
 have o:V.cell? (aa M 0)=some (ii 0):=cz b;have r:V.cell? (aa M 1)=some (ii 0):=cz b;have q:V.cell? (aa M 2)=some (ii 0):=cz b;have n:V.cell? (aa M 3)=some (iu 0):=cz b;have p:=zaF b;have k:a.cell? (aa M 0)=some (ii 9):=cz c;have h:a.cell? (aa M 1)=some (ii 4):=cz c;have i:a.cell? (aa M 2)=some (ii 1):=cz c;have m:a.cell? (aa M 3)=some (iu 0):=cz c;go_enter func29,ntmps29;go_upto_region 1 with fail
 (try rw [f]);(try rw [hM]);go_wp2_with fail;(try rw [d]);exact zaB (v:=.agg #[ii 9,ii 4,ii 1,iu 0]) (by simp [results,results29,go_sem,k,h,i,m]) rfl ⟨rfl,j.out⟩
def zEC (b:Nat):List Fx:=[⟨⟨#[110]⟩,some ⟨b,0,none⟩,1,[⟨#[49]⟩]⟩]
theorem zQq {W:World} {b c:Nat} (a:W.heap[c]? = some (.cells #[.string ⟨#[110]⟩,.slice (some ⟨b,0,none⟩) 1 1] 82 (0,0))) (e:W.heap[b]? = some (.cells #[.string ⟨#[49]⟩] 9 (0,0))):wH W (.slice (some ⟨c,0,none⟩) 1 1) (zEC b):=by
 refine ⟨_,_,rfl,xaf ⟨_,_,rfl,fun i hi=>?_⟩,fun x d=>?_⟩
 ·have hi':i=0:=by simpa [zEC] using hi
  subst hi';exact ⟨by rw [zaC a];rfl,by rw [zaC a];rfl⟩
 rw [zEC,xaH] at d;subst d;refine xaf ⟨_,_,rfl,fun i hi=>?_⟩;have hi':i=0:=by simpa using hi
 subst hi';rw [zaC e];rfl
theorem zPc (b:Nat):yW (zEC b):=(xJ (o:=zEC b) (show yZ v15=true by decide)).1
theorem zO3 (W:World):wH W (.slice none 0 0) []:=⟨none,0,rfl,xac rfl,fun _ h=>by simp at h⟩
theorem zBx:yE g15:=⟨by decide,by decide⟩
def zDM:Obj:=.cells #[.string ⟨#[65]⟩,.string ⟨#[97]⟩] 36 (0,0)
theorem zG6 (W:World):CC 7 #[] W fun e c=>e=.returned (.bool true)/\Below W.heap.size W c:=by
 have G:=hid (zHG W);go_enter func7,ntmps7;go_wp2_with fail;refine G.o.mono ?_;rintro e a ⟨rfl,ah⟩;have L:=hid ah;have HN:=hid (zJb a 9 4 1 0 (by decide) (by decide) zH4.1);clear ah G;go_wp2_with fail;refine HN.o.mono ?_;rintro e w2 ⟨h,rfl,hx⟩;have HX:=hid hx;have ab:=hid (zHo w2 0 0 0 0 (by decide) (by decide) zH4.2);clear hx HN;go_wp2_with fail;refine ab.o.mono ?_;rintro e w3 ⟨rfl,hb3⟩;have ad:=hid (HX.o.on hb3);clear hb3 HX ab;obtain ⟨Q,hQ⟩:=eE w3.heap.size;obtain ⟨V,hV⟩:=eE (w3.alloc (.cells #[tq ⟨#[65]⟩,tq ⟨#[97]⟩] 36));have M:Hid (Sto a [(Q,zDM)] 0 h [] (zLc 9 4 0) V):=ad.o.pin (by rw [<-hV];exact zaQ) (by omega) (by rw [<-hV,<-hQ];exact xab w3 _);have ai:=hid (zAe M.o (by decide))
 have l:Hid (∀{c:World} {Z nr gs S},Sto a Z nr h gs S c->(Q,zDM)∈Z->c.cell? (aa Q 0)=some (tq ⟨#[65]⟩)/\c.cell? (aa Q 1)=some (tq ⟨#[97]⟩)):=fun {c Z nr gs S} x hm=>by
  have s:=x.got hm;unfold zDM at s;exact ⟨by rw [zaC s];rfl,by rw [zaC s];rfl⟩
 clear ad;go_upto_region 6 with fail
 (try rw [hV]);(try rw [hQ]);go_wp2_with fail;refine ai.o.mono ?_;rintro e w4 ⟨b,rfl,H⟩;have K:=hid (zAe H (by decide));clear H ai M;go_wp2_with fail;refine K.o.mono ?_;rintro e w5 ⟨gy,rfl,hx5⟩;have af:Hid (Sto a [(Q,zDM)] 2 h [b,gy] fx0 w5):=hx5;have C:=hid (zCV af.o);rw [zQM] at C;clear hx5 K;go_wp2_with fail;refine C.o.mono ?_;rintro e w6 ⟨rfl,hx6⟩;have P:=hid hx6;obtain ⟨k0,k1⟩:=l.o hx6 (List.mem_singleton.2 rfl);clear hx6 C af;obtain ⟨R,hR⟩:=eE w6.heap.size;obtain ⟨X,hX⟩:=eE ((w6.alloc (.cells #[tq ⟨#[49]⟩] 9)).alloc (.cells #[tq ⟨#[110]⟩,sc (some (aa R 0)) 1 1] 82));have F:Bw w6 X:=by rw [<-hX];exact (zaQ).alloc (by simp) _
 have N:X.heap[R]? = some (oc #[tq ⟨#[49]⟩] 9):=by rw [<-hX];subst hR;exact (xaG _ _ _ (by simp)).trans (xab w6 _)
 have r1:X.heap[R+1]? = some (oc #[tq ⟨#[110]⟩,sc (some (aa R 0)) 1 1] 82):=by
  have:=xab (w6.alloc (.cells #[tq ⟨#[49]⟩] 9)) (.cells #[tq ⟨#[110]⟩,sc (some (aa R 0)) 1 1] 82);rw [xba,hR,hX] at this;exact this
 have d:=hid (zEe (P.o.on F) (by decide) (i:=0) (g:=b) rfl zRm g15 zBx _ (zEC R) v15 (zQq r1 N) (zPc R) rfl);rw [zQr] at d;simp only [show g15.1=⟨#[65]⟩ from rfl,show g15.2=⟨#[97]⟩ from rfl] at d;clear F N r1 P;go_upto_region 9 with fail
 go_wp2_with fail
 (try rw [hR]);(try rw [hX]);refine d.o.mono ?_;rintro e w7 ⟨rfl,U⟩;have hx7':Sto a [(Q,zDM)] 3 h [b,gy] fx2 w7:=U;have p:=hid (bF hx7' (by decide) (i:=0) (g:=b) rfl zRo);rw [zRS] at p;clear U hx7' d k0 k1;go_wp2_with fail;refine p.o.mono ?_;rintro e w8 ⟨rfl,v⟩;have hx8':Sto a [(Q,zDM)] 3 h [b,gy] fx3 w8:=v;obtain ⟨k0,k1⟩:=l.o v (List.mem_singleton.2 rfl);have f:=hid (zMm hx8' (by decide) (i:=1) (g:=gy) rfl zSA g15 zBx);rw [zP7] at f;simp only [show g15.1=⟨#[65]⟩ from rfl,show g15.2=⟨#[97]⟩ from rfl] at f;clear v hx8' p;go_wp2_with fail;refine f.o.mono ?_;rintro e w9 ⟨va,rfl,_,hx9⟩;have E:Hid (Sto a [(Q,zDM)] 4 h [b,gy] fx5 w9):=hx9;obtain ⟨V9,hV9⟩:=eE (w9.alloc (.cells (zF va).toArray 42));have n:=E.o.on (w':=V9) (by rw [<-hV9];exact zaQ);clear k0 k1;obtain ⟨k0,k1⟩:=l.o n (List.mem_singleton.2 rfl);have w:=hid (zEe n (by decide) (i:=1) (g:=gy) rfl zSH g15 zBx (sc none 0 0) [] [] (zO3 _) pG rfl);simp only [show g15.1=⟨#[65]⟩ from rfl,show g15.2=⟨#[97]⟩ from rfl] at w;unfold zF Vx.sl at hV9;unfold zF Vx.sl;clear hx9 n f;go_upto_region 12 with fail
 (try rw [hV9]);go_wp2_with fail;refine w.o.mono ?_;rintro e aj ⟨rfl,ag⟩;have hx10':Sto a [(Q,zDM)] 5 h [b,gy] fx7 aj:=ag;have B:=hid (bF hx10' (by decide) (i:=1) (g:=gy) rfl zSK);rw [zPn] at B;clear ag hx10' w k0 k1 E;go_wp2_with fail;refine B.o.mono ?_;rintro e w11 ⟨rfl,q⟩;have hx11':Sto a [(Q,zDM)] 5 h [b,gy] fx8 w11:=q;obtain ⟨k0,k1⟩:=l.o q (List.mem_singleton.2 rfl);have j:=hid (zHE hx11' g15 zBx 1);rw [zOp.1] at j;simp only [show g15.1=⟨#[65]⟩ from rfl,show g15.2=⟨#[97]⟩ from rfl] at j;clear q hx11' B;go_wp2_with fail;refine j.o.mono ?_;rintro e w12 ⟨vb,rfl,hvb,hx12⟩;have Y:vb.num=1:=(xad Vr.num hvb).trans zOp.2;obtain ⟨T,hT⟩:=eE w12.heap.size;obtain ⟨V12,hV12⟩:=eE (w12.alloc (.cells (zF vb).toArray 42));have ac:Sto a [(T,.cells (zF vb).toArray 42 (0,0)),(Q,zDM)] 5 h [b,gy] fx8 V12:=hx12.pin (by rw [<-hV12];exact zaQ) (by omega) (by rw [<-hV12,<-hT];exact xab w12 _);have z:=hid (mR ac (by decide));rw [zMa] at z;unfold zF Vx.sl at hV12;unfold zF Vx.sl;have ak:=hid Y;clear hx12 ac j hvb k0 k1 Y;go_upto_region 15 with fail
 (try rw [hV12]);(try rw [hT]);go_wp2_with fail;refine z.o.mono ?_;rintro e I ⟨rfl,O⟩;have hx13':Sto a [(T,.cells (zF vb).toArray 42 (0,0)),(Q,zDM)] 5 h [b,gy] fx9 I:=O;have k:=hid hx13'
 have v0:I.cell? (aa T 0)=some (ii 1):=by
  rw [zaC (hx13'.got (zaH ..)),<-ak.o];rfl
 obtain ⟨t0,J,ae⟩:∃t,fx9.txs[0]? = some t/\t.ended=true:=zGf zRz;obtain ⟨t1,ht1,he1⟩:∃t,fx9.txs[1]? = some t/\t.ended=true:=zGf zSM;have r:=hid (fW k.o (i:=0) (g:=b) rfl J);have m:=hid (fW k.o (i:=1) (g:=gy) rfl ht1);rw [ae] at r;rw [he1] at m;have D:=hid (mL k.o (by decide));rw [zF4.1] at D;clear O hx13' z J ht1 ae he1;go_wp2_with fail;refine r.o.mono ?_;rintro e W14 ⟨rfl,rfl⟩;clear r;go_wp2_with fail;refine m.o.mono ?_;rintro e W15 ⟨rfl,rfl⟩;clear m;go_wp2_with fail;refine D.o.mono ?_;rintro e w14 ⟨rfl,hx14⟩;have u:=hid (pV hx14);rw [zF4.2.1] at u;clear hx14 D k v0;go_wp2_with fail;refine u.o.mono ?_;rintro e w15 ⟨rfl,hx15⟩;have y:=hid (zAx hx15);rw [zF4.2.2.1] at y;clear hx15 u;go_wp2_with fail;refine y.o.mono ?_;rintro e w16 ⟨rfl,hx16⟩;have A:=hid (zBW hx16);rw [zF4.2.2.2] at A;clear hx16 y;go_wp2_with fail;refine A.o.mono ?_;rintro e w17 ⟨rfl,hx17⟩;have al:=hid (zA L.o L.o.size (hx17.bel));clear hx17 A;go_wp2_with fail;go_ret;exact ⟨rfl,al.o⟩
theorem Sto.sub {a:World} {Z d:List (Nat × Obj)} {e h:Nat} {b:List Nat} {S:Sv} {w:World} (x:Sto a Z e h b S w) (k:∀p∈d,p∈Z):Sto a d e h b S w:=by
 obtain ⟨c,g,i,j⟩:=x.ex;exact ⟨⟨c,g,i,fun p f=>j p (k p f)⟩,x.bel⟩
section
variable {v:Value}
theorem Tryz.infoX15:(prog.info? 54).map (fun i=>(i.zero,i.size,i.bytes))=some (some (.pointer none),1,8):=by kernel_rfl
def KTx:zC Nat:=⟨54,1,fun g=>[.pointer (some ⟨g,0,none⟩)],fun _=>rfl,by decide,fun x u hu=>by simp at hu;subst hu;rfl⟩
section
variable {W0:World} {Z:List (Nat × Obj)} {nr h:Nat} {gs:List Nat} {S:Sv} {w w':World}
theorem zFn {g:Nat} {d l:List Nat} {i:Sv} (r:yG KTx W0.heap.size W0 v l w) (x:Sto W0 Z nr h gs S w) (a:Sto W0 Z g h d i w') (f:∀k,v.ownBlock=some k->∃b,(k,b)∈Z):yG KTx W0.heap.size W0 v l w':=⟨fG r.own fun k e=>by obtain ⟨b,c⟩:=f k e;exact (a.got c).trans (x.got c).symm,a.bel,a.bel.size⟩
theorem Sto.grown (x:Sto W0 Z nr h gs S w) (r:∀k,v.ownBlock=some k->W0.heap.size<=k/\∃b,(k,b)∈Z) (A:w.grownBy w' v.ownBlock) {g:Nat} (i:v.ownBlock=some g∨g=w.heap.size) (u:g<w'.heap.size) (m:List (Nat × Obj)) (B:∀p∈m,p∈Z/\v.ownBlock≠some p.1):∃b',Sto W0 ((g,b')::m) nr h gs S w':=by
 obtain ⟨c,⟨s,p,f,o,D,n⟩,t,y⟩:=x.ex;have a:Fr (fun k=>v.ownBlock=some k) w w':=Fr.of_grown A fun k e=>e
 have l:∀k,v.ownBlock=some k->c k=0:=fun k j=>by grind
 refine ⟨w'.heap[g],⟨c,⟨s,p.fr a fun k _ e=>l k e,f,o,D,n⟩,t,fun q d=>?_⟩,x.bel.trans (a.below x.bel.size fun k j=>(r k j).1)⟩
 rcases List.mem_cons.1 d with rfl|d
 ·refine ⟨xb8 u,?_⟩
  rcases i with i|rfl
  ·exact l _ i
  exact p.out _ (zaL _)
 obtain ⟨C,z⟩:=B q d;obtain ⟨g1,g2⟩:=y q C;exact ⟨(a.block _ (gA g1).1 z).trans g1,g2⟩
end
end
structure Ov where
 kind:Int
 x:Int
 a:ByteArray
 b:ByteArray
 vp:Option Addr
 vc:Nat
 vo:List Fx
 pp:Option Addr
 pc:Nat
 pt:List Tm
 t:Int
 n:Int
 deriving Inhabited
def vN (o:Ov):List Value:=[.int .i64 o.kind,.int .i64 o.x,.string o.a,.string o.b,.slice o.vp o.vo.length o.vc,.slice o.pp o.pt.length o.pc,.int .u64 o.t,.int .i64 o.n]
def Ov.op (o:Ov):O15:=⟨o.kind,o.x,(o.a,o.b),o.vo.map Fx.fld,o.pt,o.t,o.n⟩
def KOv:zC Ov:=⟨40,8,vN,fun _=>rfl,by decide,fun x u hu=>by simp [vN] at hu;rcases hu with rfl|rfl|rfl|rfl|rfl|rfl|rfl|rfl<;>rfl⟩
structure zDk (W:World) (o:Ov):Prop where
 val:wH W (.slice o.vp o.vo.length o.vc) o.vo
 fit:yW o.vo
 cpy:xO o.vo
 prd:KM.Is W (.slice o.pp o.pt.length o.pc) o.pt
 pfit:qZ o.pt
 key:yE (o.a,o.b)
 t0:0<=o.t
 t1:o.t<=18446744073709551615
 n0:-9223372036854775808<=o.n
 n1:o.n<=9223372036854775807
 x0:-9223372036854775808<=o.x
 x1:o.x<=9223372036854775807
theorem zDk.on {W b:World} {o:Ov} (h:zDk W o) (a:Below W.heap.size W b):zDk b o:=⟨h.val.kept a,h.fit,h.cpy,zC.is_kept h.prd a,h.pfit,h.key,h.t0,h.t1,h.n0,h.n1,h.x0,h.x1⟩
section
open Go.ChangeShapes Go.WideShapes Go.ChangeAt Go.RowKit Go.Lib Go.Deep Go.Joins
section
variable {b0:Nat} {v:Value} {p:List MemPlace}
theorem Tryz.cellsVOp:prog.cellsOf 40=8:=by kernel_rfl
theorem Tryz.bytesVOp:prog.bytesOf 40=112:=by kernel_rfl
section
variable {H:Type} {enc:TypeId × Value→H} {W:World}
theorem zCC {t:Int} (h:Lit.wf (.int .i64 t)=true):-9223372036854775808<=t/\t<=9223372036854775807:=by
 simp [Lit.wf,IntKind.min,IntKind.max,IntKind.signed,IntKind.bits] at h
 omega
theorem zEv {t:Int} (h:Lit.wf (.int .u64 t)=true):0<=t/\t<=18446744073709551615:=by
 simp [Lit.wf,IntKind.min,IntKind.max,IntKind.signed,IntKind.bits] at h
 omega
theorem zLI {d:DataW H} (a:Value.okWide prog W .any b0 24 v) (h:DataW.Trod enc prog W 0 (fun _=>true) true 24 v d p):∃t,v=.int .u64 t/\0<=t/\t<=18446744073709551615:=by
 obtain ⟨n,rfl,_,_,b⟩:=open_int underlying24 a h;exact ⟨n,rfl,zEv b⟩
theorem zPD {n:Nat} {cs:List Value} {x:DataW H × List MemPlace} (h:DataW.trod enc prog W 0 (fun _=>true) true n 40 cs=some x) (m:∀n∈x.1.weights prog 40,n<=reachBytes):∃b:Ov,cs=vN b/\zDk W b:=by
 obtain ⟨E,k,_,s,u,D,a⟩:=DataW.trod_struct underlying40 h;rw [Tryz.cellsVOp] at u
 match cs,u with
 | [v0,v1,v2,v3,v4,v5,v6,v7],_ =>
  match E,D with
  | [y0,y1,y2,y3,y4,y5,y6],_ =>
  have f:=a 0 _ rfl;have g:=a 1 _ rfl;have e:=a 2 _ rfl;have i:=a 3 _ rfl;have r:=a 4 _ rfl;have l:=a 5 _ rfl;have j:=a 6 _ rfl;simp [Tryz.cellsWInt,Tryz.cellsWKey,Tryz.cellsWFs,Tryz.cellsWTs,Tryz.cellsWU64] at f g e i r l j;obtain ⟨B,w,_,_⟩:=xbh underlying3 f;obtain ⟨xi,exi,_,hxi⟩:=xbh underlying3 g;obtain ⟨k,ek,hk⟩:=zO4 e
  have A:∀n∈y3.1.weights prog 37,n<=reachBytes:=fun n c=>m n (by
   rw [s];simp only [xaZ,List.map_nil,DataW.weights,underlying40];exact zaG (xaf (zaG (xaf (zaG (xaf (zaG (xac c))))))))
  have z:∀n∈y4.1.weights prog 38,n<=reachBytes:=fun n c=>m n (by
   rw [s];simp only [xaZ,List.map_nil,DataW.weights,underlying40];exact zaG (xaf (zaG (xaf (zaG (xaf (zaG (xaf (zaG (xac c))))))))))
  obtain ⟨d,o,y,C⟩:=zI9 (dd:=y3.1) (p:=y3.2) i A;obtain ⟨t,ht,hft⟩:=zGJ (dd:=y4.1) (p:=y4.2) r z;obtain ⟨tm,etm,_,htm⟩:=xbh underlying24 l;obtain ⟨nn,enn,_,hnn⟩:=xbh underlying3 j;simp only [xbs,and_true] at w exi ek etm enn;obtain ⟨p,cap,rfl,_⟩:=id o;obtain ⟨q,qc,rfl,_⟩:=id ht;refine ⟨⟨B,xi,k.1,k.2,p,cap,d,q,qc,t,tm,nn⟩,?_,⟨o,y,C,ht,hft,hk,(zEv htm).1,(zEv htm).2,(zCC hnn).1,(zCC hnn).2,(zCC hxi).1,(zCC hxi).2⟩⟩;rw [w,exi,ek.1,ek.2,etm,enn];rfl
theorem zLF {dd:DataW H} (e:Value.okWide prog W .any b0 22 v) (h:DataW.Trod enc prog W 0 (fun _=>true) true 22 v dd p) (d:∀n∈dd.weights prog 22,n<=reachBytes):∃q:List Ov,KOv.Is W v q/\(∀x∈q,zDk W x)/\q.length<=Rows.uptoBulk dd:=by
 obtain ⟨j,k,i,rfl⟩:=okWide_slice underlying22 e;obtain ⟨fuel,a⟩:=h;obtain ⟨q,h1,h2,_,_,h5⟩:=zEb KOv underlying22 Tryz.cellsVOp Tryz.bytesVOp (fun b _=>zDk W b) (fun n g x h c=>zPD h c) (dd:=dd) (p:=p) (by simpa [Value.cells] using a) d;exact ⟨q,h1,fun f a=>(h2 f a).choose_spec.2,h5⟩
end
end
end
section
variable {D:List zQ} {x:Tx} {k:Ky} {typ:ByteArray}
theorem zDo {P:List Fld->Bool} {f:Fnd} (h:zGR D x P k=some f):f.1=k/\isS D x k=some f.2/\f.2.live=true/\P f.2.val=true:=by grind [zGR]
theorem zEG:k∈zJs D x typ↔(k∈sB D typ∨(k∈xH x.wr/\k.1=typ)):=by
 have b:∀(l a:List Ky),k∈l.foldl (fun a k=>qJ yR k a) a↔k∈a∨k∈l:=by
  intro l
  induction l with
  | nil=>grind
  | cons z l ih=>grind [mF]
 grind [zJs]
theorem zJR (h:OkD D) (x:Tx) (typ:ByteArray):yU yR (zJs D x typ):=by
 have b:∀(l a:List Ky),yU yR a->yU yR (l.foldl (fun a k=>qJ yR k a) a):=by
  intro l
  induction l with
  | nil=>grind
  | cons z l ih=>grind [qI,wX]
 exact b _ _ (h.rise.sublist xbG)
theorem zDp (h:OkD D) {x:Tx} {typ:ByteArray} {P:List Fld->Bool} {f:Fnd}:f∈cG D x typ P↔f.1.1=typ/\isS D x f.1=some f.2/\f.2.live=true/\P f.2.val=true:=by
 unfold cG;rw [List.mem_filterMap];constructor
 ·rintro ⟨k,d,g⟩;obtain ⟨rfl,b,a,c⟩:=zDo g;refine ⟨?_,b,a,c⟩
  rcases zEG.1 d with q|q
  ·exact xaM (List.mem_filter.1 q).2
  exact q.2
 rintro ⟨b,a,c,i⟩;refine ⟨f.1,zEG.2 ?_,?_⟩
 ·unfold isS at a
  split at a
  ·refine xac (List.mem_filter.2 ⟨(wI h f.1).2 fun e=>?_,by grind⟩);unfold xT at a;rw [e] at a
   cases a
  next e he=>exact xaf ⟨List.mem_map.2 ⟨_,uV he,rfl⟩,b⟩
 grind [zGR]
theorem zDX {D:List zQ} {x:Tx} {P:List Fld->Bool}:∀ks:List Ky,((ks.filterMap (zGR D x P)).map Prod.fst).Sublist ks
 | []=>List.Sublist.refl _
 | k::ks=>by
  have a:=zDX (D:=D) (x:=x) (P:=P) ks;rw [xaN]
  split
  ·grind
  next f hf =>
  rw [xaZ,(zDo hf).1]
  grind
theorem zHe (h:OkD D) (x:Tx) (typ:ByteArray) (P:List Fld->Bool):yU yR ((cG D x typ P).map Prod.fst):=(zJR h x typ).sublist (zDX _)
theorem zII {L M:List Fnd} (c:yU yR (L.map Prod.fst)) (b:yU yR (M.map Prod.fst)) (h:∀f,f∈L↔f∈M) (g:Ky->Option Vr) (a:∀f∈L,g f.1=some f.2):L=M:=by
 have d:L.map Prod.fst=M.map Prod.fst:=vF wX c b fun k=>by grind
 rw [zGs a,zGs (L:=M) (f:=g) fun f e=>a f ((h f).2 e),d]
end
structure Rn where
 S:Sv
 ids:List Nat
def kU (r:Rn) (o:O15):R15 × Rn:=if o.kind=1 then ({ stamp:=r.S.last },⟨vG r.S,r.ids++[r.S.txs.length]⟩)
 else if o.kind=16 then ({ stamp:=zP r.S,nums:=[(tL r.S.D (zP r.S):Int)] },⟨uH r.S,r.ids⟩)
 else if o.kind=17 then ({ nums:=[wE r.S.tick o.n] },⟨{ r.S with tick:=wE r.S.tick o.n },r.ids⟩)
 else if o.kind=18 then ({ ver:=(xT r.S.D o.t o.key).getD zeroV,ok:=(xT r.S.D o.t o.key).isSome },r)
 else if o.kind=19 then ({ stamp:=r.S.last,nums:=[(zT r.S.D:Int),(yY (xR r.S):Int),(r.S.tk.kept.length:Int)] },r)
 else if o.x<0 then ({},r)
 else match r.ids[o.x.toNat]? with
  | some j=>match r.S.txs[j]? with
   | some x=>((mH r.S j x o).1,⟨(mH r.S j x o).2,r.ids⟩)
   | none=>({},r)
  | none=>({},r)
section
variable {ve:Int}
theorem zY {α β:Type} {P:β->Prop} {c:Prop} [Decidable c] {a b:α × β} (e:P a.2) (d:P b.2):P (if c then a else b).2:=by grind
theorem nY {β:Type} {P:β->Prop} {c:Prop} [Decidable c] {a b:β} (e:P a) (d:P b):P (if c then a else b):=by grind
def zJj (S S':Sv):Prop:=S'.vers=S.vers/\S'.txs.length=S.txs.length
theorem zJN (S:Sv) (i:Nat) (x:Tx) (o:O15):zJj S (mH S i x o).2:=by
 have a:∀y,zJj S (yA S i y):=fun y=>⟨rfl,xaW⟩
 have d:zJj S (zU S i x).2:=by
  unfold zU;refine zY ⟨rfl,rfl⟩ (zY (a _) (zY (a _) (zY (a _) (zY (a _) ?_))));unfold uE;simp only;have b:∀(n t:Int) (D:List zQ) (c:Prop) [Decidable c],zJj S (if c then yA S i { x with ended:=true } else { yA S i { x with ended:=true } with last:=n,D:=D }):=fun n t D c _=>nY (a _) ⟨rfl,xaW⟩
  exact nY (b _ 0 _ _) ⟨(b _ 0 _ _).1,(b _ 0 _ _).2⟩
 unfold mH;exact zY (a _) (zY (a _) (zY (a _) (zY (a _) (zY (a _) (zY (a _) (zY (a _) (zY (a _) (zY (a _) (zY (a _) (zY ⟨rfl,rfl⟩ (zY ⟨rfl,rfl⟩ (zY d (zY (a _) ⟨rfl,rfl⟩)))))))))))))
def RnA (ve:Int) (r:Rn):Prop:=r.S.vers=ve/\r.ids=List.range r.S.txs.length
theorem zOr {r:Rn} (h:RnA ve r) (o:O15):RnA ve (kU r o).2:=by
 obtain ⟨a,b⟩:=h;unfold kU
 split
 ·refine ⟨a,?_⟩;show r.ids++[r.S.txs.length]=List.range (r.S.txs++[jA r.S.last]).length;rw [b,xah,xaX,List.range_succ]
 split
 ·exact ⟨a,b⟩
 split
 ·exact ⟨a,b⟩
 split
 ·exact ⟨a,b⟩
 split
 ·exact ⟨a,b⟩
 split
 ·exact ⟨a,b⟩
 split
 ·split
  ·next j _ _ x _ =>
   have:=zJN r.S j x o;exact ⟨this.1.trans a,by show r.ids=List.range (mH r.S j x o).2.txs.length;rw [this.2];exact b⟩
  grind
 exact ⟨a,b⟩
theorem zPe (r:Rn) (o:O15):(kU r o).2.ids.length<=r.ids.length+1:=by grind [kU]
structure GvS (ve:Int) (n m:Nat) (S:Sv):Prop where
 vers:S.vers=ve
 len:S.txs.length=n
 off:∀j t,j<m->S.txs[j]? = some t->t.ended=true
theorem GvS.give {n m:Nat} {S:Sv} (h:GvS ve n m S) (t:Tx) (b:m<n):GvS ve n (m+1) (sE S m t).2:=by
 refine ⟨h.vers,by show (S.txs.set m _).length=n;rw [xaW];exact h.len,fun j u hj a=>?_⟩;have hu':(S.txs.set m { t with ended:=true })[j]? = some u:=a
 by_cases e:m=j
 ·subst e;rw [List.getElem?_set_self (by rw [h.len];exact b)] at hu';rw [<-zaP hu']
 rw [List.getElem?_set_ne e] at hu';exact h.off j u (by omega) hu'
end
section
variable {ks ks' L:List Ky} {S:Sv} {i:Nat} {x:Tx} {k:Ky} {t:Int}
def zCz (ks:List Ky) (x:Tx):Prop:=∀k∈xH x.wr,k∈ks
structure vY (ks:List Ky) (S:Sv):Prop where
 dir:∀k,ofD S.D k≠[]->k∈ks
 wr:∀x∈S.txs,zCz ks x
theorem vY.more (h:vY ks S) (a:∀k∈ks,k∈ks'):vY ks' S:=⟨fun k q=>a k (h.dir k q),fun x b k q=>a k (h.wr x b k q)⟩
theorem vY.set (h:vY ks S) (a:zCz ks x):vY ks (yA S i x):=⟨h.dir,fun y b=>(xb7 b).elim (h.wr y) fun e=>e▸a⟩
theorem zEI {L:List yI} {j:Ky} {e:Wr} (h:j∈xH (pB L k e)):j=k∨j∈xH L:=by
 simp only [xH,List.mem_map] at *;obtain ⟨y,a,rfl⟩:=h;unfold pB at a
 rcases (pL _ _ _).1 a with rfl|q
 ·exact xac rfl
 exact xaf ⟨y,(List.mem_filter.1 q).1,rfl⟩
theorem zMX {v:List Fld} (h:zCz ks x) (a:∀k∈ks,k∈ks') (b:k∈ks'):zCz ks' (wA x k v).2:=by
 intro j hj;unfold wA at hj
 split at hj
 ·exact a j (h j hj)
 simp only [mE] at hj
 split at hj
 ·rcases zEI hj with rfl|q
  ·exact b
  exact a j (h j q)
 exact a j (h j hj)
theorem zJU (h:zCz ks x) (a:∀k,ofD S.D k≠[]->k∈ks):zCz ks (vC S.D x k).2:=by
 intro j hj;unfold vC at hj
 split at hj
 ·exact h j hj
 split at hj
 ·exact h j hj
 split at hj
 ·exact h j hj
 next hl =>
 split at hj
 ·simp only [xH,qX,List.mem_map] at hj;obtain ⟨y,b,rfl⟩:=hj;exact h _ (List.mem_map.2 ⟨y,(List.mem_filter.1 b).1,rfl⟩)
 next ho =>
 rcases zEI (show j∈xH (pB x.wr k none) from hj) with rfl|q
 ·refine a j fun e=>ho ?_
  unfold xT;rw [e];rfl
 exact h j q
theorem zAE {n tick:Int}:∀(ch:List Ch) (D:List zQ),ofD (yV D ch n tick) k≠[]->ofD D k≠[]∨k∈ch.map Ch.key
 | [],D,h=>xac h
 | c::ch,D,h=>by
  rcases zAE ch (nI D c.key n tick c.il c.is) h with q|q
  ·unfold nI at q
   split at q
   ·rw [dB] at q
    split at q
    ·next e=>exact xaf (by rw [e];exact zaH)
    exact xac q
   exact xac q
  exact xaf (xay _ q)
theorem zMk {D:List zQ} (h:k∈(zD D x).map Ch.key):k∈xH x.wr:=by
 unfold zD at h
 split at h
 ·cases h
 obtain ⟨c,a,rfl⟩:=List.mem_map.1 h;obtain ⟨y,hy,rfl⟩:=List.mem_map.1 a;exact List.mem_map.2 ⟨y,hy,rfl⟩
theorem vY.commit (h:vY ks S) (c:zCz ks x):vY ks (zU S i x).2:=by
 have a:vY ks (yA S i { x with ended:=true }):=h.set c;unfold zU;refine zY (P:=vY ks) h (zY (P:=vY ks) a (zY (P:=vY ks) a (zY (P:=vY ks) a (zY (P:=vY ks) a ?_))));unfold uE;simp only
 have b:vY ks (if zD S.D x=[] then yA S i { x with ended:=true } else { yA S i { x with ended:=true } with last:=S.last+1,D:=yV S.D (zD S.D x) (S.last+1) S.tick }) :=
  nY (P:=vY ks) a ⟨fun k q=>(zAE _ _ q).elim (h.dir k) fun q=>c k (zMk q),a.wr⟩
 exact nY (P:=vY ks) b ⟨b.dir,b.wr⟩
theorem vY.call (h:vY ks S) (c:zCz ks x) (o:O15) (b:∀k∈ks,k∈ks') (e:o.kind=4->o.key∈ks'):vY ks' (mH S i x o).2:=by
 have h':=h.more b;have a:zCz ks' x:=fun k q=>b k (c k q)
 let K:Tx->Prop:=zCz ks'
 let G:Sv->Prop:=vY ks'
 have g:∀{y:Tx},zCz ks' y->vY ks' (yA S i y):=fun q=>h'.set q
 unfold mH;have r:K (tM S.D x o.key).2:=by unfold tM;exact zY (P:=K) a (zY (P:=K) a a)
 have u:K (qA S.D x o.key.1 o.pred).2:=by unfold qA;exact zY (P:=K) a (zY (P:=K) a a)
 have m:K (vC S.D x o.key).2:=zJU a h'.dir;have d:K (nS x):=by unfold nS;exact nY (P:=K) a fun k q=>by cases q
 have p:K (atS S.D S.floor x o.t o.key).2:=by unfold atS;exact zY (P:=K) a (zY (P:=K) a (nY (P:=K) a a))
 have f:K (mB S.D S.floor x o.t o.key.1 o.pred).2:=by unfold mB;exact zY (P:=K) a (zY (P:=K) a (nY (P:=K) a a))
 have j:K (nL S.D S.floor x o.key o.t).2:=by unfold nL;exact zY (P:=K) a (zY (P:=K) a (nY (P:=K) a a))
 have l:K (sS S.D S.floor x o.key.1 o.t).2:=by unfold sS;exact zY (P:=K) a (nY (P:=K) a a)
 have s:K (vL S.D x o.key o.n).2:=by unfold vL;exact zY (P:=K) a (zY (P:=K) a (nY (P:=K) a a))
 refine zY (P:=G) (g r) (zY (P:=G) (g u) ?_)
 by_cases h4:o.kind=4
 ·rw [xae h4];exact g (zMX c b (e h4))
 rw [xag h4];exact zY (P:=G) (g m) (zY (P:=G) (g d) (zY (P:=G) (g p) (zY (P:=G) (g f) (zY (P:=G) (g j) (zY (P:=G) (g l) (zY (P:=G) (g s) (zY (P:=G) h' (zY (P:=G) h' (zY (P:=G) (h'.commit a) (zY (P:=G) (g a) h'))))))))))
theorem vY.vac (h:vY ks S):vY ks (uH S):=⟨fun k q=>h.dir k fun e=>q (by show ofD (wB S.D (zP S)) k=[];rw [sY,e];rfl),h.wr⟩
theorem vY.give {t:Tx} (h:vY ks S) (a:S.txs[i]? = some t):vY ks (sE S i t).2:=h.set (h.wr t (List.mem_of_getElem? a))
theorem vY.step {r:Rn} (h:vY ks r.S) (o:O15) (b:∀k∈ks,k∈ks') (c:o.kind=4->o.key∈ks'):vY ks' (kU r o).2.S:=by
 have h':=h.more b;unfold kU
 split
 ·refine ⟨h'.dir,fun x a=>?_⟩
  rcases List.mem_append.1 a with q|q
  ·exact h'.wr x q
  rw [List.mem_singleton.1 q];exact fun k q=>by cases q
 split
 ·exact h'.vac
 split
 ·exact ⟨h'.dir,h'.wr⟩
 split
 ·exact h'
 split
 ·exact h'
 split
 ·exact h'
 split
 ·split
  ·next x a=>exact h.call (h.wr x (List.mem_of_getElem? a)) o b c
  exact h'
 exact h'
theorem zNv (h:OkS S) {t:Int} (a:zP S<=t) (k:Ky):atV (ofD (uH S).D k) t=atV (ofD S.D k) t:=by
 show atV (ofD (wB S.D (zP S)) k) t=_
 rw [sY,zFc (pW h.dir k).rise a]
theorem zJg {l:List Vr} (h:∀v∈l,v.stamp<=t):wG l t=l.length:=by
 unfold wG
 congr 1
 induction l with
 | nil=>rfl
 | cons a l ih=>rw [List.takeWhile_cons_of_pos (by simpa using h a zaH),ih fun v b=>h v (xay _ b)]
structure zAI (S:Sv):Prop where
 off:∀x∈S.txs,x.ended=true
theorem zAI.least (h:zAI S):zP S=S.last:=by
 unfold zP
 rcases zAR (xR S) S.last with q|q
 ·exact q
 obtain ⟨x,a,b,_⟩:=zCe.1 q;have:=h.off x a
 grind
theorem zAI.none (h:zAI S):yY (xR S)=0:=by
 unfold yY;rw [List.countP_eq_zero];intro o b;obtain ⟨x,a,rfl⟩:=List.mem_map.1 b;rw [h.off x a];simp
theorem zAI.count (h:zAI S) (c:OkS S):zT (uH S).D=S.D.length:=by
 have e:∀r∈S.D,(wV r.2 S.last).length=1:=fun r b=>by
  have f:=(c.dir.ok r b).2;have g:wG r.2 S.last=r.2.length:=zJg fun v d=>c.low r.1 v (by rw [jM c.dir b];exact d)
  have j:0<r.2.length:=List.length_pos_iff.2 f;rw [fZ];unfold vH;omega
 show ((wB S.D (zP S)).map fun r=>r.2.length).sum=_
 rw [h.least];unfold wB;rw [xbW];have:S.D.map ((fun r:zQ=>r.2.length) ∘ fun r=>(r.1,wV r.2 S.last))=S.D.map fun _=>1:=xb5 fun r b=>e r b
 rw [this]
 induction S.D with
 | nil=>rfl
 | cons a l ih=>simp only [xaZ,List.sum_cons,xa3,ih];omega
def qW (ks:List Ky) (k:Ky):Bool:=ks.any fun j=>decide (j=k)
theorem mG:qW ks k=true↔k∈ks:=by simp [qW]
def zA1 (P:Ky->Bool) (ks:List Ky):Nat->Nat
 | 0=>0
 | n+1=>zA1 P ks n+match ks[n]? with|some k=>if (P k && !qW (ks.take n) k)=true then 1 else 0|none=>0
theorem zIV (h:L.Nodup) (p:Ky->Bool) (a:Ky):(L.filter fun k=>p k||decide (k=a)).length=(L.filter p).length+if (qW L a && !p a)=true then 1 else 0:=by
 induction L with
 | nil=>simp [qW]
 | cons b L c =>
 obtain ⟨g,f⟩:=List.nodup_cons.1 h;have c:=c f
 by_cases hb:b=a
 ·subst hb;have e:qW L b=false:=by cases q:qW L b with|false=>rfl|true=>exact absurd (mG.1 q) g
  have d:qW (b::L) b=true:=mG.2 zaH;rw [e] at c;rw [d]
  cases hp:p b<;>simp_all
 have d:qW (b::L) a=qW L a:=by simp [qW,hb]
 rw [d]
 cases hp:p b<;>simp_all<;>omega
theorem zN5 {P:Ky->Bool} (b:L.Nodup) (a:∀k,k∈ks->(P k=true↔k∈L)):∀n,n<=ks.length->zA1 P ks n=(L.filter (qW (ks.take n))).length
 | 0,_=>by rw [List.take_zero,show L.filter (qW [])=[] from List.filter_eq_nil_iff.2 fun _ _ q=>by cases q];rfl
 | n+1,c=>by
  have hl':n<ks.length:=c
  have d:(L.filter (qW (ks.take (n+1))))=L.filter fun k=>qW (ks.take n) k||decide (k=ks[n]):=by
   refine List.filter_congr fun k _=>?_
   unfold qW;rw [zaK hl',xbM];simp [eq_comm]
  have e:P ks[n]=qW L ks[n]:=Bool.eq_iff_iff.2 ((a _ (zaN hl')).trans mG.symm);rw [d,zIV b,zA1,zN5 b a n (by omega),xai hl'];simp only [e]
theorem zPv {P:Ky->Bool} (a:L.Nodup) (c:∀k,k∈ks->(P k=true↔k∈L)) (hs:∀k∈L,k∈ks):zA1 P ks ks.length=L.length:=by
 rw [zN5 a c _ (zaL _),List.take_length]
 congr 1
 exact List.filter_eq_self.2 fun k b=>mG.2 (hs k b)
theorem zAI.each (h:zAI S) (c:OkS S) {ks:List Ky} (m:vY ks S):zA1 (fun k=>(atV (ofD (uH S).D k) tD).isSome) ks ks.length=zT (uH S).D:=by
 have d:=zJn c
 have l:(S.D.map Prod.fst).Nodup:=c.dir.rise.imp fun {a b} q=>by
  rintro rfl;rw [wX.irr] at q
  cases q
 have j:((uH S).D.map Prod.fst)=S.D.map Prod.fst:=kF _ _;rw [h.count c,show S.D.length=(S.D.map Prod.fst).length by rw [zaM]];refine zPv l (fun k _=>?_) fun k q=>m.dir k ((wI c.dir k).1 q)
 rw [<-j,wI d.dir];have f:wG (ofD (uH S).D k) tD=(ofD (uH S).D k).length:=zJg fun v g=>Int.le_trans (d.low k v g) d.top
 unfold atV;rw [f]
 split
 ·next e=>simp [List.length_eq_zero_iff.1 e]
 next e =>
 have e':(ofD (uH S).D k).length-1<(ofD (uH S).D k).length:=by omega
 rw [xai e'];simp only [Option.isSome_some,true_iff];exact fun q=>e (by rw [q];rfl)
end
section
variable {l:List Vr} {n:Int} {S:Sv} {i:Nat} {t:Tx}
theorem zRe {tick:Int} (c:∀v∈l,v.stamp<n) (a:Bool) (b:List Fld):atV (tY l n tick a b) n=some ⟨(yF l).num+1,n,tick,a,if a then b else []⟩:=by
 have e:wG (tY l n tick a b) n=l.length+1:=by
  unfold wG tY;rw [List.takeWhile_append_of_pos (by intro v d;have:=c v d;simp;omega)];simp
 unfold atV;rw [e];simp [tY]
theorem at_all (b:∀v∈l,v.stamp<=n):atV l n=l.getLast?:=by
 have d:wG l n=l.length:=by
  unfold wG
  congr 1
  induction l with
  | nil=>rfl
  | cons a l ih=>rw [List.takeWhile_cons_of_pos (by simpa using b a zaH),ih (fun v c=>b v (xay _ c))]
 unfold atV;rw [d,List.getLast?_eq_getElem?]
 split
 ·next h=>simp [List.length_eq_zero_iff.1 h]
 rfl
def WhC (S S':Sv) (c:Ch):Prop:=∃v,xT S'.D (S.last+1) c.key=some v/\v.stamp=S.last+1/\v.live=c.il/\v.val=c.is/\(match xT S'.D S.last c.key with|some u=>u.live=c.wl/\v.num=u.num+1|none=>c.wl=false/\v.num=1)
theorem zRt (c:S.txs[i]? = some t) (d:t.ended=false) (h:(zU S i t).1.2≠0∨zD S.D t=[]):(zU S i t).1.1=0/\(zU S i t).2.last=S.last/\zT (zU S i t).2.D=zT S.D/\∃u,(zU S i t).2.txs[i]? = some u/\u.ended=true:=by
 have hi:=(gL c).1;have a:(yA S i { t with ended:=true }).txs[i]? = some { t with ended:=true }:=by grind [yA]
 unfold zU at *;rw [xag (by rw [d];decide)] at *
 split
 ·exact ⟨rfl,rfl,rfl,_,a,rfl⟩
 split
 ·exact ⟨rfl,rfl,rfl,_,a,rfl⟩
 split
 ·exact ⟨rfl,rfl,rfl,_,a,rfl⟩
 split
 ·exact ⟨rfl,rfl,rfl,_,a,rfl⟩
 have b:zD S.D t=[]:=by grind
 unfold uE;simp only [b,if_true,true_and]
 split<;>exact ⟨rfl,rfl,_,a,rfl⟩
theorem zRg (h:OkS S) {i:Nat} {t:Tx} (A:S.txs[i]? = some t) (k:t.ended=false) (f:(zU S i t).1.2=0) (p:zD S.D t≠[]):(zU S i t).1.1=S.last+1/\(zU S i t).2.last=S.last+1/\zT (zU S i t).2.D=zT S.D+(zD S.D t).length/\∀c∈zD S.D t,WhC S (zU S i t).2 c:=by
 have C:=h.txs t (List.mem_of_getElem? A);unfold zU at *;rw [xag (by rw [k];decide)] at *
 split at f
 ·cases f
 next j =>
 have j:(zD S.D t).any (tA S.D t.snap)=false:=by simpa using j
 rw [xag (by rw [j];decide)]
 split at f
 ·cases f
 next hc =>
 rw [xag hc]
 split at f
 ·cases f
 next q =>
 rw [xag q]
 split at f
 ·cases f
 next hp =>
 rw [xag hp];have o:=zJw h C k j;have r:0<=S.last+1:=by have:=h.fl0;have:=h.fl;omega
 have x:(uE S i t (zD S.D t) (yP S.tk t.snap t.marks (zD S.D t)).1).2.D=yV S.D (zD S.D t) (S.last+1) S.tick:=by
  unfold uE;simp only [p,if_false,false_and]
 have F:(uE S i t (zD S.D t) (yP S.tk t.snap t.marks (zD S.D t)).1).2.last=S.last+1:=by
  unfold uE;simp only [p,if_false,false_and]
 refine ⟨by unfold uE;simp only [p,if_false],F,by rw [x];exact jO r h.dir o,fun c b=>?_⟩
 have B:(yF (ofD S.D c.key)).stamp<=t.snap:=by
  have:=(List.any_eq_false.1 j) c b;unfold tA at this
  simpa using this
 have G:(zD S.D t).find? (fun d=>decide (d.key=c.key))=some c:=by
  have z:=o.nd
  generalize zD S.D t=L at b z
  induction L with
  | nil=>cases b
  | cons a L ih=>grind
 have m:=zAn (tick:=S.tick) o c.key;rw [G] at m;have m:ofD (yV S.D (zD S.D t) (S.last+1) S.tick) c.key=tY (ofD S.D c.key) (S.last+1) S.tick c.il c.is:=m;unfold WhC;rw [x]
 have H:c.il=false->c.is=[]:=by
  unfold zD at b;rw [xag (by rw [k];simp)] at b;obtain ⟨y,E,rfl⟩:=List.mem_map.1 b
  cases hw:y.2<;>simp [zNA,hw,xM,jZ]
 have g:c.wl=((xT S.D t.snap c.key).getD zeroV).live:=by
  unfold zD at b;rw [xag (by rw [k];simp)] at b;obtain ⟨y,E,rfl⟩:=List.mem_map.1 b;rfl
 unfold xT at g;rw [zKZ (pW h.dir c.key) B] at g;have w:=h.low c.key;refine ⟨⟨(yF (ofD S.D c.key)).num+1,S.last+1,S.tick,c.il,if c.il then c.is else []⟩,?_,rfl,rfl,?_,?_⟩
 ·unfold xT;rw [m,zRe (fun v q=>by have:=w v q;omega)]
 ·cases e:c.il with
  | true=>simp
  | false=>simp [H e]
 have e:xT (yV S.D (zD S.D t) (S.last+1) S.tick) S.last c.key=(ofD S.D c.key).getLast?:=by
  unfold xT;rw [zEd (s:=S.last) r h.dir o (by omega) (xbo _),at_all w]
 rw [e];unfold yF at g ⊢
 cases hg:(ofD S.D c.key).getLast? with
 | none=>rw [hg] at g;exact ⟨g,rfl⟩
 | some u=>rw [hg] at g;exact ⟨g.symm,rfl⟩
theorem zST (a:S.txs[i]? = some t):(sE S i t).1=(!t.ended)/\(sE S i t).2.last=S.last/\(sE S i t).2.D=S.D/\∃u,(sE S i t).2.txs[i]? = some u/\u.ended=true:=⟨rfl,rfl,rfl,_,List.getElem?_set_self (gL a).1,rfl⟩
theorem zQ3 (S:Sv) (i:Nat) {t:Tx} (a:t.ended=true):zU S i t=((0,12),S):=by
 unfold zU;rw [xae a]
end
def sM (fl sn:Int):Value:=.agg #[.int .u64 fl,.int .u64 sn]
theorem zEU (w:World) (a:Array Value) (b:TypeId):Below w.heap.size w (w.alloc (.cells a b))/\(w.alloc (.cells a b)).heap[w.heap.size]? = some (.cells a b (0,0))/\(w.alloc (.cells a b)).heap.size=w.heap.size+1:=⟨zaQ,xab w _,by simp⟩
theorem zB2 (w:World) (a d:Array Value) (b c:TypeId):Below w.heap.size w ((w.alloc (.cells a b)).alloc (.cells d c))/\((w.alloc (.cells a b)).alloc (.cells d c)).heap[w.heap.size]? = some (.cells a b (0,0))/\((w.alloc (.cells a b)).alloc (.cells d c)).heap[w.heap.size+1]? = some (.cells d c (0,0))/\((w.alloc (.cells a b)).alloc (.cells d c)).heap.size=w.heap.size+2:=by
 have g:Bw w (w.alloc (.cells a b)):=zaQ;have i:(w.alloc (.cells a b)).heap.size=w.heap.size+1:=by simp
 have e:Below (w.alloc (.cells a b)).heap.size (w.alloc (.cells a b)) ((w.alloc (.cells a b)).alloc (.cells d c)):=zaQ;have h:(w.alloc (.cells a b)).heap[w.heap.size]? = some (oc a b):=xab w _;have f:((w.alloc (.cells a b)).alloc (.cells d c)).heap[(w.alloc (.cells a b)).heap.size]? = some (oc d c):=xab _ _;rw [i] at f;exact ⟨zA g g.size e,(e.block _ (by omega)).trans h,f,by simp⟩
theorem zPx (w:World):yB.at w/\yW yB.o:=⟨⟨none,0,rfl,xac rfl,fun x a=>by cases a⟩,⟨by decide,fun x a=>by cases a⟩⟩
section
open Go.RowKit Go.Lib
section
variable {n g:Nat} {w:World}
structure uO {α:Type} (f:α->Bool) (o c:List α) (i j:Nat):Prop where
 len:c.length=o.length
 lt:i<j
 le:j<=o.length
 low:c.take i=(o.take j).filter fun x=>!f x
 high:∀m,j<=m->c[m]? = o[m]?
section
variable {α:Type} {f:α→Bool} {o c:List α} {i j:Nat}
theorem uO.start (hi:i<o.length) (a:∀x∈o.take i,f x=false) (b:f o[i]=true):uO f o o i (i+1):=by
 refine ⟨rfl,by omega,by omega,?_,fun _ _=>rfl⟩
 grind [List.take_succ_eq_append_getElem,List.filter_eq_self]
theorem uO.skip (h:uO f o c i j) (hj:j<o.length) (a:f o[j]=true):uO f o c i (j+1):=by
 have:=h.lt;refine ⟨h.len,by omega,by omega,?_,fun m b=>h.high m (by omega)⟩;rw [zaK hj,xaV,List.filter_cons_of_neg (by simp [a]),List.filter_nil,xbL];exact h.low
theorem uO.keep (h:uO f o c i j) (hj:j<o.length) (a:f o[j]=false):uO f o (c.set i o[j]) (i+1) (j+1):=by
 have d:=h.lt;have k:=h.len;have b:i<(c.set i o[j]).length:=by rw [xaW];omega
 refine ⟨by grind,by omega,by omega,?_,fun m e=>?_⟩
 ·rw [zaK b,List.take_set_of_le (zaL _),List.getElem_set_self,h.low,zaK hj,xaV,List.filter_cons_of_pos (by simp [a]),List.filter_nil]
 rw [List.getElem?_set_ne (by omega)];exact h.high m (by omega)
theorem uO.done (h:uO f o c i o.length):c.take i=o.filter fun x=>!f x:=by
 have:=h.low
 grind
theorem uO.at (h:uO f o c i j) (hj:j<o.length):∃hc:j<c.length,c[j]=o[j]:=by
 have a:=h.len;refine ⟨by omega,?_⟩;have:=h.high j (zaL _)
 grind
end
theorem zDn {z:Array Value} (a:∀u∈z.toList,u.oneCell'=true):∀v∈(Builtin.zeroCells z n).toList,v.oneCell'=true:=by grind [Builtin.zeroCells,Nat.mod_lt]
theorem zC.run_clear {P:Program} {α:Type} (K:zC α) (b:TypeId) (z:Value) (r:P.underlying b=some (.slice K.T)) (t:∀w,(zeroValue K.T).run P w=.ok z w) (q:z.cells.size=K.k) (l:∀u∈z.cells.toList,u.oneCell'=true) (w:World) (g o n:Nat) (x:0<n)
  (hc:∀j,j<n * K.k->(w.cell? ⟨g,o+j,none⟩).isSome=true) (hf:∀j,j<n * K.k->w.frozen? ⟨g,o+j,none⟩=false):∃a:List Value,∀e c,(Builtin.clear_ #[b] e #[.slice (some ⟨g,o,none⟩) n c]).run P w=.ok (.tuple #[]) (w.setCells g o a):=by
 obtain ⟨a,d⟩:∃a,(Builtin.zeroCells z.cells n).toList=a:=⟨_,rfl⟩;have s:a.length=n * K.k:=by rw [<-d,xaB,size_zeroCells,q]
 have h:∀v∈a,v.oneCell'=true:=by rw [<-d];exact zDn l
 refine ⟨a,fun e c=>?_⟩;have p:=xb1 (P:=P) g o a 0 w (by grind) (by grind) h;simp only [Nat.add_zero] at p;obtain ⟨m,rfl⟩:∃m,n=m+1:=⟨n-1,by omega⟩
 simp_all [Builtin.clear_,run_underlying]
theorem zBX (a:List Value):∀(w b:World) (p:Nat),b.grownBy w (some g)->b.grownBy (w.setCells g p a) (some g):=by
 induction a with
 | nil=>intro w b p h;exact h
 | cons v a ih=>grind [World.setCells,nO,xS]
theorem nX {o:Nat}:∀(k:Nat) (us:List Value) (w a:World),a.grownBy w (some g)->a.grownBy (qD w g o k us) (some g)
 | _,[],_,_,h=>h
 | k,u::r,w,a,h=>by
  unfold qD;exact nX (k+1) r _ _ (nO h (xS w g _ u))
theorem xV {l d:World} {e:Option Nat} (h:l.grownBy w e) (a:Below w.heap.size w d):l.grownBy d e:=⟨a.os.trans h.os,a.tape.trans h.tape,a.output.trans h.output,zaU h.size a.size,fun k b m=>(a.block k (zaT b h.size)).trans (h.block k b m)⟩
theorem sR (w:World) (a:Option Nat):w.grownBy w a:=⟨rfl,rfl,rfl,zaL _,fun _ _ _=>rfl⟩
theorem zC.own_set {α:Type} {K:zC α} {N g n a:Nat} {l:List α} {w:World} (h:K.Own N w (.slice (some ⟨g,0,none⟩) n a) l) (i:Nat) (hi:i<l.length) (x:α):K.Own N (qD w g (i * K.k) 0 (K.enc x)) (.slice (some ⟨g,0,none⟩) n a) (l.set i x):=by
 obtain ⟨e,d,b⟩:=zC.own_shape h;injection b with _ hn _
 subst hn;unfold zC.Own;rw [K.cells_setL l i hi x,xaW];exact jW 0 _ _ w h
theorem zC.own_any {α:Type} {K:zC α} {N q:Nat} {l:List α} (h:K.Own N w (.slice (some ⟨g,0,none⟩) n q) l):(∀t,t<n * K.k->(w.cell? ⟨g,t,none⟩).isSome=true)/\(∀t,w.frozen? ⟨g,t,none⟩=false)/\N<=g/\l.length=n/\g<w.heap.size:=by
 rcases h.2 with ⟨a,_⟩|⟨u,y,r,a,d,b,m,v,s,x⟩
 ·cases a
 injection a with e1 e2 e3
 injection e1 with e1
 injection e1 with e1 _ _
 subst e1 e2 e3;refine ⟨fun t p=>?_,fun t=>zaF b t,d,rfl,(gA b).1⟩;have e:t<r.size:=by rw [s];exact zaT p (xa1 _ m)
 rw [zaC b];simp [e]
end
end
section
open Go.RowKit Go.Lib
theorem zG8 {l:List Value} (h:(l.all fun u=>u.oneCell')=true):∀u∈l,u.oneCell'=true:=List.all_eq_true.1 h
def zPQ {α:Type} (f:α->Bool) (l:List α) (e:Ending):Prop:=(∃i,∃h:i<l.length,e=.returned (.int .i64 i)/\(∀x∈l.take i,f x=false)/\f l[i]=true)∨(e=.returned (.int .i64 (-1))/\∀x∈l,f x=false)
def zLY {α:Type} (K:zC α) (f:α->Bool) (N g cap:Nat) (o:List α) (w:World) (e:Ending) (w':World):Prop:=∃m,e=.returned (.slice (some ⟨g,0,none⟩) m cap)/\K.Own N w' (.slice (some ⟨g,0,none⟩) m cap) (o.filter fun x=>!f x)/\w.grownBy w' (some g)
theorem zFo (f:Vx->Bool) (k:Nat) (lb:Array Value) (eg:∀args w,(callFunc k args).run prog w=.ok (.enter k args) w) (v:Value) (l:List Vx) (w:World) (hv:KV.Is w v l) (hl:l.length<=9000000000000000000)
  (hk:∀(W:World) (x:Vx),Below w.heap.size w W->x∈l->CC k (#[.agg (zF x).toArray]++lb) W fun e w'=>e=.returned (.bool (f x))/\Below W.heap.size W w'):CC 195 #[v,.func (.func k) #[] lb] w fun e w'=>zPQ f l e/\Below w.heap.size w w':=by
 obtain ⟨p,cap,rfl,hd⟩:=hv;have HD:=hid hd;have HK:=hid hk;go_enter func195,ntmps195;go_wp2_with fail
 go_loopg [8] l.length (fun gg vi wr=>∃i:Nat,vi=ii i/\i<=l.length/\l.length-i<=gg/\Hid (Bw w wr/\∀x∈l.take i,f x=false))
 case atStart=>exact ⟨0,rfl,by omega,by omega,zaR _ _,fun x hx=>by simp at hx⟩
 obtain ⟨i,rfl,hi,hgk,HI⟩:=hrel
 by_cases hlt:i<l.length
 ·have hltz:(i:Int)<(l.length:Int):=by omega
  have hiz:(0:Int)<=i:=by omega
  obtain ⟨b1,o1,rfl,k1⟩:∃b off,p=some (aa b off)/\KV.At w b off l:=by
   rcases HD.o with h|h
   ·grind
   exact h
  obtain ⟨y0,y1,y2,y3,y4⟩:=zBd (zC.at_kept k1 HI.o.1) i hlt;have hmem:l[i]∈l:=zaN hlt;have htk:l.take (i+1)=l.take i++[l[i]]:=zaK hlt;have HC:=hid (HK.o wr l[i] HI.o.1 hmem)
  have HNO:Hid (f l[i]=false->∀x∈l.take (i+1),f x=false):=fun h x hx=>by
   rw [htk] at hx
   rcases List.mem_append.1 hx with hx|hx
   ·exact HI.o.2 x hx
   grind
  have HYES:Hid (f l[i]=true->zPQ f l (.returned (ii i))):=fun h=>xac ⟨i,hlt,rfl,HI.o.2,h⟩
  have HB:=hid HI.o.1
  generalize l[i]=x at *
  cases hq:f x with
  | true =>
   rw [hq] at HC;have HY:=hid (HYES.o hq);simp only [zF,Vx.sl] at *;go_wp2_with (go_at_fn k;refine HC.o.mono ?_;rintro e w1 ⟨rfl,hb1⟩);go_ret;exact ⟨HY.o,zA HB.o HB.o.size hb1⟩
  | false =>
  rw [hq] at HC;have HN:=hid (HNO.o hq);simp only [zF,Vx.sl] at *;go_wp2_with (go_at_fn k;refine HC.o.mono ?_;rintro e w1 ⟨rfl,hb1⟩);have HB1:=hid (zA HB.o HB.o.size hb1);go_roundg (l.length-(i+1))
  case measure=>omega
  exact ⟨i+1,by go_num,by omega,by omega,HB1.o,HN.o⟩
 have hltz:¬ (i:Int)<(l.length:Int):=by omega
 have hti:l.take i=l:=xaj (by omega);rw [hti] at HI;go_wp2_with fail;go_ret;exact ⟨xaf ⟨rfl,HI.o.2⟩,HI.o.1⟩
theorem zM2 (f:Vx->Bool) (k:Nat) (lb:Array Value) (c:∀args w,(callFunc k args).run prog w=.ok (.enter k args) w) (w:World):CC 143 #[.slice none 0 0,.func (.func k) #[] lb] w fun e j=>e=.returned (.slice none 0 0)/\Below w.heap.size w j:=by
 have b:=hid (zFo f k lb c (sc none 0 0) [] w (KV.is_nil w) (by simp) (fun _ x _ a=>by cases a));go_enter func143,ntmps143;go_wp2_with fail;refine b.o.mono ?_;rintro e l ⟨hi,d⟩
 rcases hi with ⟨i,h,_⟩|⟨rfl,_⟩
 ·simp at h
 have g:=hid d;go_wp2_with fail;go_ret;exact ⟨rfl,g.o⟩
theorem zKi (f:Vx->Bool) (k:Nat) (lb:Array Value) (eg:∀args w,(callFunc k args).run prog w=.ok (.enter k args) w) (N g n cap:Nat) (o:List Vx) (w:World) (h:KV.Own N w (.slice (some ⟨g,0,none⟩) n cap) o) (hl:n<=2400000000000)
  (hk:∀(W:World) (x:Vx),w.grownBy W (some g)->x∈o->CC k (#[.agg (zF x).toArray]++lb) W fun e w'=>e=.returned (.bool (f x))/\Below W.heap.size W w'):CC 143 #[.slice (some ⟨g,0,none⟩) n cap,.func (.func k) #[] lb] w fun e w'=>zLY KV f N g cap o w e w':=by
 obtain ⟨hcs,hfz,hNg,hon,hgl⟩:=zC.own_any h
 have hcap:n<=cap:=by
  rcases h.2 with ⟨hv,_⟩|⟨g',cap',cur,hv,h1,h2,h3,h4,h5,h6⟩
  ·cases hv
  grind
 have HX:=hid (zFo f k lb eg (sc (some (aa g 0)) n cap) o w (zC.own_is h) (by omega) (fun W x hb hx=>hk W x (xV (sR w _) hb) hx));have HK:=hid hk;have HO:=hid h;have HON:=hid hon;clear hk h hcs hfz;go_enter func143,ntmps143;go_wp2_with fail;refine HX.o.mono ?_;rintro e w1 ⟨hi,hb1⟩;have HB1:=hid hb1;clear hb1 HX
 rcases hi with ⟨i0,hi0,rfl,hn0,hy0⟩|⟨rfl,hn0⟩
 ·have hi0n:i0<n:=by rw [<-hon];exact hi0
  have ST0:Hid (uO f o o i0 (i0+1)/\KV.Own N w1 (sc (some (aa g 0)) n cap) o/\w.grownBy w1 (some g)):=⟨uO.start hi0 hn0 hy0,zC.own_on HO.o HB1.o,xV (sR w _) HB1.o⟩;have hiz:(0:Int)<=(i0:Int):=by omega
  have hne1:((i0:Int) == -1)=false:=by rw [xb4];omega
  clear hn0 hy0 hi0 HO HB1 hon;go_wp2_with fail
  go_loopg [5,6] n (fun gg s5 s6 wr=>∃(i j:Nat) (c:List Vx),s5=ii i/\s6=ii j/\i<j/\j<=n/\n-j<=gg/\Hid (uO f o c i j/\KV.Own N wr (sc (some (aa g 0)) n cap) c/\w.grownBy wr (some g)))
  case atStart=>grind
  clear ST0;obtain ⟨i,j,c,rfl,rfl,hij,hjn,hgk,HI⟩:=hrel;have hiz:(0:Int)<=(i:Int):=by omega
  have hjz:(0:Int)<=(j:Int):=by omega
  by_cases hlt:j<n
  ·have hltz:(j:Int)<(n:Int):=by omega
   have hinz:(i:Int)<(n:Int):=by omega
   have hjo:j<o.length:=by rw [HON.o];exact hlt
   obtain ⟨hjc,hce⟩:=HI.o.1.at hjo;have hmem:o[j]∈o:=zaN hjo;obtain ⟨p',c',he',hd'⟩:=zC.own_is HI.o.2.1;injection he' with he' e5 e6
   subst he';clear e5 e6
   have hat:KV.At wr g 0 c:=by
    rcases hd' with hd'|⟨b2,o2,e2,hd'⟩
    ·grind
    grind
   have hcj:=zBd hat j hjc;rw [hce,xaJ] at hcj;obtain ⟨b0,b1,b2,b3,b4⟩:=hcj;have hown:=HI.o.2.1;have hgr:=HI.o.2.2;obtain ⟨hcs,hfz,_,hcl,hgw⟩:=zC.own_any hown;have HSK:Hid (f o[j]=true->uO f o c i (j+1)):=fun hy=>HI.o.1.skip hjo hy
   have HKP:Hid (f o[j]=false->uO f o (c.set i o[j]) (i+1) (j+1)):=fun hy=>HI.o.1.keep hjo hy
   have HBX:Hid (Bw wr (wr.alloc (.cells (zF o[j]).toArray 42))):=zaQ;have HC:=hid (HK.o _ o[j] (xV hgr HBX.o) hmem);have HPUT:Hid (∀w6,Bw wr w6->KV.Own N (qD w6 g (i * 5) 0 (zF o[j])) (sc (some (aa g 0)) n cap) (c.set i o[j])/\w.grownBy (qD w6 g (i * 5) 0 (zF o[j])) (some g)):=fun w6 hb=>⟨zC.own_set (zC.own_on hown hb) i (by omega) _,nX 0 _ _ _ (xV hgr hb)⟩
   have HSTAY:Hid (∀w6,Bw wr w6->KV.Own N w6 (sc (some (aa g 0)) n cap) c/\w.grownBy w6 (some g)):=fun w6 hb=>⟨zC.own_on hown hb,xV hgr hb⟩
   have HCELL:Hid (∀w6,Bw wr w6->(∀t,t<n * 5->(w6.cell? (aa g t)).isSome=true)/\∀t,w6.frozen? (aa g t)=false):=fun w6 hb=>⟨(zC.own_any (zC.own_on hown hb)).1,(zC.own_any (zC.own_on hown hb)).2.1⟩
   have HNEW:Hid ((wr.alloc (.cells (zF o[j]).toArray 42)).heap[wr.z]? = some (oc (zF o[j]).toArray 42)):=xab wr _;clear hown hgr hat hce hmem hd' HI hcs hfz
   generalize o[j]=x at *
   clear hjo;have HAL:Hid (wr.z<(wr.alloc (.cells (zF x).toArray 42)).z):=(gA HNEW.o).1;clear hcl hgw hjc;simp only [zF,Vx.sl] at *
   cases hq:f x with
   | true =>
    rw [hq] at HC;have HN:=hid (HSK.o hq);clear HSK HKP hq HPUT HCELL;go_wp2_with (go_at_fn k;refine HC.o.mono ?_;rintro e w6 ⟨rfl,hb6⟩);have HB6:=hid (zA HBX.o HBX.o.size hb6);clear hb6;go_roundg (n-(j+1))
    case measure=>omega
    exact ⟨i,j+1,c,rfl,by go_num,by omega,by omega,by omega,HN.o,HSTAY.o _ HB6.o⟩
   | false =>
   rw [hq] at HC;have HN:=hid (HKP.o hq);clear HSK HKP hq HSTAY;go_wp2_with fail;refine HC.o.mono ?_;rintro e w6 ⟨rfl,hb6⟩;have hb6':=zA HBX.o HBX.o.size hb6;have hx6:=(hb6.block wr.z HAL.o).trans HNEW.o;obtain ⟨hcs6,hfz6⟩:=HCELL.o w6 hb6';have x0:w6.cell? (aa wr.z 0)=some (ii x.num):=(zaC hx6 0).trans rfl;have x1:w6.cell? (aa wr.z 1)=some (iu x.stamp):=(zaC hx6 1).trans rfl;have x2:w6.cell? (aa wr.z 2)=some (ii x.tick):=(zaC hx6 2).trans rfl;have x3:w6.cell? (aa wr.z 3)=some (.bool x.live):=(zaC hx6 3).trans rfl;have x4:w6.cell? (aa wr.z 4)=some (sc x.p x.o.length x.cap):=(zaC hx6 4).trans rfl;obtain ⟨u0,r0⟩:=Option.isSome_iff_exists.1 (hcs6 (i * 5) (by omega));obtain ⟨u1,r1⟩:=Option.isSome_iff_exists.1 (hcs6 (i * 5+1) (by omega));obtain ⟨u2,r2⟩:=Option.isSome_iff_exists.1 (hcs6 (i * 5+2) (by omega));obtain ⟨u3,r3⟩:=Option.isSome_iff_exists.1 (hcs6 (i * 5+3) (by omega));obtain ⟨u4,r4⟩:=Option.isSome_iff_exists.1 (hcs6 (i * 5+4) (by omega));have z0:=hfz6 (i * 5);have z1:=hfz6 (i * 5+1);have z2:=hfz6 (i * 5+2);have z3:=hfz6 (i * 5+3);have z4:=hfz6 (i * 5+4);have HB6:=hid hb6';clear hb6 hb6' hx6 hcs6 hfz6;go_wp2_with fail;go_roundg (n-(j+1))
   case measure=>omega
   exact ⟨i+1,j+1,_,by go_num,by go_num,by omega,by omega,by omega,HN.o,HPUT.o _ HB6.o⟩
  have hltz:¬ (j:Int)<(n:Int):=by omega
  have hje:j=n:=by omega
  have hinz:(i:Int)<=(n:Int):=by omega
  have hicz:(i:Int)<=(cap:Int):=by omega
  have hncz:(n:Int)<=(cap:Int):=by omega
  have hcne:¬ cap=i:=by omega
  obtain ⟨hcs,hfz,_,hcl,hgw⟩:=zC.own_any HI.o.2.1
  obtain ⟨zs,hcr⟩:∃zs:List Value,∀ty c,(Builtin.clear_ #[44] ty #[sc (some (aa g (i * 5))) (n-i) c]).run prog wr=.ok (.tuple #[]) (wr.setCells g (i * 5) zs) :=
   zC.run_clear KV 44 (.agg #[ii 0,iu 0,ii 0,.bool false,sc none 0 0]) underlying44 zeroValue42 rfl (fun u hu=>zG8 (by rfl) u hu) wr g (i * 5) (n-i) (by omega) (fun t ht=>hcs _ (by show _<n * 5;have ht':t<(n-i) * 5:=ht;omega)) (fun t _=>hfz _)
  have HP:Hid (zLY KV f N g cap o w (.returned (sc (some (aa g 0)) i cap)) (wr.setCells g (i * 5) zs)):=by
   have hd:=HI.o.1;rw [hje,<-HON.o] at hd;refine ⟨i,rfl,?_,zBX zs _ _ _ HI.o.2.2⟩;rw [<-hd.done];exact zC.own_past zs wr (i * 5) (zC.own_cut HI.o.2.1 i (by omega)) (by grind) (zaL _)
  clear HI hcs hfz hje;go_wp2_with fail;go_ret;exact HP.o
 have HP:Hid (zLY KV f N g cap o w (.returned (sc (some (aa g 0)) n cap)) w1):=by
  refine ⟨n,rfl,?_,xV (sR w _) HB1.o⟩;rw [List.filter_eq_self.2 fun x hx=>by grind];exact zC.own_on HO.o HB1.o
 clear hn0 HO HB1;go_wp2_with fail;go_ret;exact HP.o
end
section
open Go.RowKit Go.Lib
theorem zHc (f:Fd->Bool) (k:Nat) (lb:Array Value) (eg:∀args w,(callFunc k args).run prog w=.ok (.enter k args) w) (v:Value) (l:List Fd) (w:World) (hv:KFd.Is w v l) (hl:l.length<=9000000000000000000)
  (hk:∀(W:World) (x:Fd),Below w.heap.size w W->x∈l->CC k (#[.agg (zN x).toArray]++lb) W fun e w'=>e=.returned (.bool (f x))/\Below W.heap.size W w'):CC 197 #[v,.func (.func k) #[] lb] w fun e w'=>zPQ f l e/\Below w.heap.size w w':=by
 obtain ⟨p,cap,rfl,hd⟩:=hv;have HD:=hid hd;have HK:=hid hk;go_enter func197,ntmps197;go_wp2_with fail
 go_loopg [8] l.length (fun gg vi wr=>∃i:Nat,vi=ii i/\i<=l.length/\l.length-i<=gg/\Hid (Bw w wr/\∀x∈l.take i,f x=false))
 case atStart=>exact ⟨0,rfl,by omega,by omega,zaR _ _,fun x hx=>by simp at hx⟩
 obtain ⟨i,rfl,hi,hgk,HI⟩:=hrel
 by_cases hlt:i<l.length
 ·have hltz:(i:Int)<(l.length:Int):=by omega
  have hiz:(0:Int)<=i:=by omega
  obtain ⟨b1,o1,rfl,k1⟩:∃b off,p=some (aa b off)/\KFd.At w b off l:=by
   rcases HD.o with h|h
   ·rw [h] at hlt;simp at hlt
   exact h
  obtain ⟨y0,y1,y2,y3,y4,y5,y6⟩:=zEi (zC.at_kept k1 HI.o.1) i hlt;have hmem:l[i]∈l:=zaN hlt;have htk:l.take (i+1)=l.take i++[l[i]]:=zaK hlt;have HC:=hid (HK.o wr l[i] HI.o.1 hmem)
  have HNO:Hid (f l[i]=false->∀x∈l.take (i+1),f x=false):=fun h x hx=>by
   rw [htk] at hx
   rcases List.mem_append.1 hx with hx|hx
   ·exact HI.o.2 x hx
   rw [List.mem_singleton.1 hx];exact h
  have HYES:Hid (f l[i]=true->zPQ f l (.returned (ii i))):=fun h=>xac ⟨i,hlt,rfl,HI.o.2,h⟩
  have HB:=hid HI.o.1
  generalize l[i]=x at *
  cases hq:f x with
  | true =>
   rw [hq] at HC;have HY:=hid (HYES.o hq);simp only [zN,zF,Vx.sl] at *;go_wp2_with (go_at_fn k;refine HC.o.mono ?_;rintro e w1 ⟨rfl,hb1⟩);go_ret;exact ⟨HY.o,zA HB.o HB.o.size hb1⟩
  | false =>
  rw [hq] at HC;have HN:=hid (HNO.o hq);simp only [zN,zF,Vx.sl] at *;go_wp2_with (go_at_fn k;refine HC.o.mono ?_;rintro e w1 ⟨rfl,hb1⟩);have HB1:=hid (zA HB.o HB.o.size hb1);go_roundg (l.length-(i+1))
  case measure=>omega
  exact ⟨i+1,by go_num,by omega,by omega,HB1.o,HN.o⟩
 have hltz:¬ (i:Int)<(l.length:Int):=by omega
 have hti:l.take i=l:=xaj (by omega);rw [hti] at HI;go_wp2_with fail;go_ret;exact ⟨xaf ⟨rfl,HI.o.2⟩,HI.o.1⟩
theorem zLT (f:Fd->Bool) (k:Nat) (lb:Array Value) (c:∀args w,(callFunc k args).run prog w=.ok (.enter k args) w) (w:World):CC 146 #[.slice none 0 0,.func (.func k) #[] lb] w fun e j=>e=.returned (.slice none 0 0)/\Below w.heap.size w j:=by
 have b:=hid (zHc f k lb c (sc none 0 0) [] w (KFd.is_nil w) (by simp) (fun _ x _ a=>by cases a));go_enter func146,ntmps146;go_wp2_with fail;refine b.o.mono ?_;rintro e l ⟨hi,d⟩
 rcases hi with ⟨i,h,_⟩|⟨rfl,_⟩
 ·simp at h
 have g:=hid d;go_wp2_with fail;go_ret;exact ⟨rfl,g.o⟩
theorem zLt (f:Fd->Bool) (k:Nat) (lb:Array Value) (eg:∀args w,(callFunc k args).run prog w=.ok (.enter k args) w) (N g n cap:Nat) (o:List Fd) (w:World) (h:KFd.Own N w (.slice (some ⟨g,0,none⟩) n cap) o) (hl:n<=2400000000000)
  (hk:∀(W:World) (x:Fd),w.grownBy W (some g)->x∈o->CC k (#[.agg (zN x).toArray]++lb) W fun e w'=>e=.returned (.bool (f x))/\Below W.heap.size W w'):CC 146 #[.slice (some ⟨g,0,none⟩) n cap,.func (.func k) #[] lb] w fun e w'=>zLY KFd f N g cap o w e w':=by
 obtain ⟨hcs,hfz,hNg,hon,hgl⟩:=zC.own_any h
 have hcap:n<=cap:=by
  rcases h.2 with ⟨hv,_⟩|⟨g',cap',cur,hv,h1,h2,h3,h4,h5,h6⟩
  ·cases hv
  injection hv with e1 e2 e3
  rw [e2,e3];exact h3
 have HX:=hid (zHc f k lb eg (sc (some (aa g 0)) n cap) o w (zC.own_is h) (by omega) (fun W x hb hx=>hk W x (xV (sR w _) hb) hx));have HK:=hid hk;have HO:=hid h;have HON:=hid hon;clear hk h hcs hfz;go_enter func146,ntmps146;go_wp2_with fail;refine HX.o.mono ?_;rintro e w1 ⟨hi,hb1⟩;have HB1:=hid hb1;clear hb1 HX
 rcases hi with ⟨i0,hi0,rfl,hn0,hy0⟩|⟨rfl,hn0⟩
 ·have hi0n:i0<n:=by rw [<-hon];exact hi0
  have ST0:Hid (uO f o o i0 (i0+1)/\KFd.Own N w1 (sc (some (aa g 0)) n cap) o/\w.grownBy w1 (some g)):=⟨uO.start hi0 hn0 hy0,zC.own_on HO.o HB1.o,xV (sR w _) HB1.o⟩;have hiz:(0:Int)<=(i0:Int):=by omega
  have hne1:((i0:Int) == -1)=false:=by rw [xb4];omega
  clear hn0 hy0 hi0 HO HB1 hon;go_wp2_with fail
  go_loopg [5,6] n (fun gg s5 s6 wr=>∃(i j:Nat) (c:List Fd),s5=ii i/\s6=ii j/\i<j/\j<=n/\n-j<=gg/\Hid (uO f o c i j/\KFd.Own N wr (sc (some (aa g 0)) n cap) c/\w.grownBy wr (some g)))
  case atStart=>exact ⟨i0,i0+1,o,rfl,by go_num,by omega,by omega,by omega,ST0.out⟩
  clear ST0;obtain ⟨i,j,c,rfl,rfl,hij,hjn,hgk,HI⟩:=hrel;have hiz:(0:Int)<=(i:Int):=by omega
  have hjz:(0:Int)<=(j:Int):=by omega
  by_cases hlt:j<n
  ·have hltz:(j:Int)<(n:Int):=by omega
   have hinz:(i:Int)<(n:Int):=by omega
   have hjo:j<o.length:=by rw [HON.o];exact hlt
   obtain ⟨hjc,hce⟩:=HI.o.1.at hjo;have hmem:o[j]∈o:=zaN hjo;obtain ⟨p',c',he',hd'⟩:=zC.own_is HI.o.2.1;injection he' with he' e5 e6
   subst he';clear e5 e6
   have hat:KFd.At wr g 0 c:=by
    rcases hd' with hd'|⟨b2,o2,e2,hd'⟩
    ·rw [hd'] at hjc;simp at hjc
    injection e2 with e2
    injection e2 with e2 e3 _
    subst e2 e3;exact hd'
   have hcj:=zEi hat j hjc;rw [hce,xaJ] at hcj;obtain ⟨b0,b1,b2,b3,b4,b5,b6⟩:=hcj;have hown:=HI.o.2.1;have hgr:=HI.o.2.2;obtain ⟨hcs,hfz,_,hcl,hgw⟩:=zC.own_any hown;have HSK:Hid (f o[j]=true->uO f o c i (j+1)):=fun hy=>HI.o.1.skip hjo hy
   have HKP:Hid (f o[j]=false->uO f o (c.set i o[j]) (i+1) (j+1)):=fun hy=>HI.o.1.keep hjo hy
   have HBX:Hid (Bw wr (wr.alloc (.cells (zN o[j]).toArray 171))):=zaQ;have HC:=hid (HK.o _ o[j] (xV hgr HBX.o) hmem);have HPUT:Hid (∀w6,Bw wr w6->KFd.Own N (qD w6 g (i * 7) 0 (zN o[j])) (sc (some (aa g 0)) n cap) (c.set i o[j])/\w.grownBy (qD w6 g (i * 7) 0 (zN o[j])) (some g)):=fun w6 hb=>⟨zC.own_set (zC.own_on hown hb) i (by rw [hcl];omega) _,nX 0 _ _ _ (xV hgr hb)⟩
   have HSTAY:Hid (∀w6,Bw wr w6->KFd.Own N w6 (sc (some (aa g 0)) n cap) c/\w.grownBy w6 (some g)):=fun w6 hb=>⟨zC.own_on hown hb,xV hgr hb⟩
   have HCELL:Hid (∀w6,Bw wr w6->(∀t,t<n * 7->(w6.cell? (aa g t)).isSome=true)/\∀t,w6.frozen? (aa g t)=false):=fun w6 hb=>⟨(zC.own_any (zC.own_on hown hb)).1,(zC.own_any (zC.own_on hown hb)).2.1⟩
   have HNEW:Hid ((wr.alloc (.cells (zN o[j]).toArray 171)).heap[wr.z]? = some (oc (zN o[j]).toArray 171)):=xab wr _;clear hown hgr hat hce hmem hd' HI hcs hfz
   generalize o[j]=x at *
   clear hjo;have HAL:Hid (wr.z<(wr.alloc (.cells (zN x).toArray 171)).z):=(gA HNEW.o).1;clear hcl hgw hjc;simp only [zN,zF,Vx.sl] at *
   cases hq:f x with
   | true =>
    rw [hq] at HC;have HN:=hid (HSK.o hq);clear HSK HKP hq HPUT HCELL;go_wp2_with (go_at_fn k;refine HC.o.mono ?_;rintro e w6 ⟨rfl,hb6⟩);have HB6:=hid (zA HBX.o HBX.o.size hb6);clear hb6;go_roundg (n-(j+1))
    case measure=>omega
    exact ⟨i,j+1,c,rfl,by go_num,by omega,by omega,by omega,HN.o,HSTAY.o _ HB6.o⟩
   | false =>
   rw [hq] at HC;have HN:=hid (HKP.o hq);clear HSK HKP hq HSTAY;go_wp2_with fail;refine HC.o.mono ?_;rintro e w6 ⟨rfl,hb6⟩;have hb6':=zA HBX.o HBX.o.size hb6;have hx6:=(hb6.block wr.z HAL.o).trans HNEW.o;obtain ⟨hcs6,hfz6⟩:=HCELL.o w6 hb6';have x0:w6.cell? (aa wr.z 0)=some (tq x.a):=(zaC hx6 0).trans rfl;have x1:w6.cell? (aa wr.z 1)=some (tq x.b):=(zaC hx6 1).trans rfl;have x2:w6.cell? (aa wr.z 2)=some (ii x.v.num):=(zaC hx6 2).trans rfl;have x3:w6.cell? (aa wr.z 3)=some (iu x.v.stamp):=(zaC hx6 3).trans rfl;have x4:w6.cell? (aa wr.z 4)=some (ii x.v.tick):=(zaC hx6 4).trans rfl;have x5:w6.cell? (aa wr.z 5)=some (.bool x.v.live):=(zaC hx6 5).trans rfl;have x6:w6.cell? (aa wr.z 6)=some (sc x.v.p x.v.o.length x.v.cap):=(zaC hx6 6).trans rfl;obtain ⟨u0,r0⟩:=Option.isSome_iff_exists.1 (hcs6 (i * 7) (by omega));obtain ⟨u1,r1⟩:=Option.isSome_iff_exists.1 (hcs6 (i * 7+1) (by omega));obtain ⟨u2,r2⟩:=Option.isSome_iff_exists.1 (hcs6 (i * 7+2) (by omega));obtain ⟨u3,r3⟩:=Option.isSome_iff_exists.1 (hcs6 (i * 7+3) (by omega));obtain ⟨u4,r4⟩:=Option.isSome_iff_exists.1 (hcs6 (i * 7+4) (by omega));obtain ⟨u5,r5⟩:=Option.isSome_iff_exists.1 (hcs6 (i * 7+5) (by omega));obtain ⟨u6,r6⟩:=Option.isSome_iff_exists.1 (hcs6 (i * 7+6) (by omega));have z0:=hfz6 (i * 7);have z1:=hfz6 (i * 7+1);have z2:=hfz6 (i * 7+2);have z3:=hfz6 (i * 7+3);have z4:=hfz6 (i * 7+4);have z5:=hfz6 (i * 7+5);have z6:=hfz6 (i * 7+6);have HB6:=hid hb6';clear hb6 hb6' hx6 hcs6 hfz6;go_wp2_with fail;go_roundg (n-(j+1))
   case measure=>omega
   exact ⟨i+1,j+1,_,by go_num,by go_num,by omega,by omega,by omega,HN.o,HPUT.o _ HB6.o⟩
  have hltz:¬ (j:Int)<(n:Int):=by omega
  have hje:j=n:=by omega
  have hinz:(i:Int)<=(n:Int):=by omega
  have hicz:(i:Int)<=(cap:Int):=by omega
  have hncz:(n:Int)<=(cap:Int):=by omega
  have hcne:¬ cap=i:=by omega
  obtain ⟨hcs,hfz,_,hcl,hgw⟩:=zC.own_any HI.o.2.1
  obtain ⟨zs,hcr⟩:∃zs:List Value,∀ty c,(Builtin.clear_ #[43] ty #[sc (some (aa g (i * 7))) (n-i) c]).run prog wr=.ok (.tuple #[]) (wr.setCells g (i * 7) zs) :=
   zC.run_clear KFd 43 (.agg #[tq ⟨#[]⟩,tq ⟨#[]⟩,ii 0,iu 0,ii 0,.bool false,sc none 0 0]) underlying43 zeroValue171 rfl (fun u hu=>zG8 (by rfl) u hu) wr g (i * 7) (n-i) (by omega) (fun t ht=>hcs _ (by show _<n * 7;have ht':t<(n-i) * 7:=ht;omega)) (fun t _=>hfz _)
  have HP:Hid (zLY KFd f N g cap o w (.returned (sc (some (aa g 0)) i cap)) (wr.setCells g (i * 7) zs)):=by
   have hd:=HI.o.1;rw [hje,<-HON.o] at hd;refine ⟨i,rfl,?_,zBX zs _ _ _ HI.o.2.2⟩;rw [<-hd.done];exact zC.own_past zs wr (i * 7) (zC.own_cut HI.o.2.1 i (by omega)) (by rw [xa2];omega) (zaL _)
  clear HI hcs hfz hje;go_wp2_with fail;go_ret;exact HP.o
 have HP:Hid (zLY KFd f N g cap o w (.returned (sc (some (aa g 0)) n cap)) w1):=by
  refine ⟨n,rfl,?_,xV (sR w _) HB1.o⟩;rw [List.filter_eq_self.2 fun x hx=>by simp [hn0 x hx]];exact zC.own_on HO.o HB1.o
 clear hn0 HO HB1;go_wp2_with fail;go_ret;exact HP.o
end
end Go.Proofs.YtkhljboeffhciaaGreat
