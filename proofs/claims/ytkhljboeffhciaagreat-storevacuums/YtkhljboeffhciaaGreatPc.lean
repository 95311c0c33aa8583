/- A part of the proof. -/
import Derived.Test.YtkhljboeffhciaaGreatPb
import Derived.DataShut
import Derived.Lib.AppendZerosOnto
set_option maxHeartbeats 40000000
set_option maxRecDepth 100000
set_option linter.unusedSimpArgs false
open Go.RowKit Go.Proofs.Tryz
namespace Go.Proofs.YtkhljboeffhciaaGreat
section
variable {x:Tx} {S:Sv} {i:Nat}
section
variable {D:List zQ} {fl last:Int} {x:Tx}
theorem zQK (h:OkX D fl last x) (k:Ky) (v:List Fld):OkX D fl last (wA x k v).2:=by
 unfold wA
 split
 ·exact h
 refine ⟨h.lo,h.hi,h.fl,zPT h.wr k v,fun c a b=>?_⟩;have hk':yH (mE x.wr k v) a=some none:=b;rw [zMc] at hk'
 split at hk'
 ·cases hk'
 exact h.dead c a hk'
theorem zHf (h:OkX D fl last x) (k:Ky):OkX D fl last (vC D x k).2:=by
 unfold vC
 split
 ·exact h
 split
 ·exact h
 next c hk =>
 split
 ·exact zFj h _
 split
 ·refine ⟨h.lo,h.hi,h.fl,zFN h.wr k,fun c b d=>?_⟩;have a:yH (qX x.wr k) b=some none:=d;rw [fL] at a
  split at a
  ·cases a
  exact h.dead c b a
 next hl =>
 refine ⟨h.lo,h.hi,h.fl,zFU h.wr k none (by grind) (fun v f=>by cases f),fun c b d=>?_⟩;have a:yH (pB x.wr k none) b=some none:=d;rw [fE] at a
 split at a
 ·next e =>
  subst e;show ((xT D x.snap b).getD zeroV).live=true
  grind
 exact h.dead c b a
theorem zO8 (h:OkX D fl last x):OkX D fl last (nS x):=by
 unfold nS
 split
 ·exact h
 exact ⟨h.lo,h.hi,h.fl,zKK,fun _ k a=>by cases a⟩
end
theorem zFD {D:List zQ} (a:x.ended=false):(zD D x).map Ch.key=xH x.wr:=by
 unfold zD xH;rw [xag (by rw [a];simp),xbW];rfl
theorem zFx {L:List yI} (h:L.Pairwise fun x y=>yR x.1 y.1=true):(xH L).Nodup:=by
 unfold xH
 exact List.pairwise_map.2 (h.imp fun {a b} hab e=>by
  have e':a.1=b.1:=e;rw [e',wX.irr] at hab
  cases hab)
theorem zJw (h:OkS S) {x:Tx} (a:OkX S.D S.floor S.last x) (d:x.ended=false) (g:(zD S.D x).any (tA S.D x.snap)=false):fF S.D (S.last+1) (zD S.D x):=by
 refine ⟨by rw [zFD d];exact zFx a.wr.rise,fun c b=>?_⟩
 have m:tA S.D x.snap c=false:=by
  rw [xbz] at g
  simpa using g c b
 have j:(yF (ofD S.D c.key)).stamp<=x.snap:=by
  have:=xbN m;omega
 unfold zD at b;rw [xag (by rw [d];simp)] at b;obtain ⟨y,e,rfl⟩:=List.mem_map.1 b;have l:=a.wr.key y e;have n:=h.fl0;have q:=h.fl;have o:=a.hi;unfold wT;rw [xae (by exact l)];show mY 8 3 6 (yZ (jZ (some y.2))) (ofD S.D y.1) (S.last+1) (xM (some y.2))=0;unfold mY;have hlt':(yF (ofD S.D y.1)).stamp<=x.snap:=j;rw [xag (by omega)]
 cases hw:y.2 with
 | some v =>
  have p:=a.wr.may y e v hw
  grind [xM,jZ]
 | none =>
 rw [xag (by simp [xM]),xag];have k:yH x.wr y.1=some none:=by rw [fY a.wr.rise e,hw]
 have f:=a.dead d y.1 k;unfold xT at f;rw [zKZ (pW h.dir y.1) hlt'] at f
 grind
theorem zNB {ch:List Ch} {k:Ky} {c:Ch} (h:ch.find? (fun c=>decide (c.key=k))=some c):c∈ch/\c.key=k:=⟨List.mem_of_find?_eq_some h,by grind⟩
theorem zNO {t:Tk} {d:Dn} {s:Int} (h:(nD t d).2.last=some s):t.last=some s∨s=d.stamp:=by grind [nD,sN]
theorem zOQ (h:OkS S) {i:Nat} {x:Tx} (l:OkX S.D S.floor S.last x) (A:x.ended=false) (C:(zD S.D x).any (tA S.D x.snap)=false) (d:zD S.D x≠[]->((zT S.D:Int)+((zD S.D x).length:Int))<=S.vers/\S.last≠tD) (K:Bool):OkS (uE S i x (zD S.D x) K).2:=by
 have u:=zCA h i (zF1 l);have j:=zJw h l A C;have G:=h.fl0;have Q:=h.fl;have O:=h.top
 have B:∀c∈zD S.D x,(xN c.key.1 c.key.2=true)/\(c.il=true->yZ c.is=true):=fun c f=>by
  unfold zD at f;rw [xag (by rw [A];simp)] at f;obtain ⟨y,w,rfl⟩:=List.mem_map.1 f;refine ⟨l.wr.key y w,fun P=>?_⟩
  cases hw:y.2 with
  | none=>grind [zNA,xM]
  | some v =>
  have:=l.wr.may y w v hw
  grind [zNA,jZ]
 have e:OkS (if zD S.D x=[] then yA S i { x with ended:=true } else { yA S i { x with ended:=true } with last:=S.last+1,D:=yV S.D (zD S.D x) (S.last+1) S.tick }):=by
  split
  ·exact u
  next hne =>
  obtain ⟨N,M⟩:=d hne;have n:(0:Int)<=S.last+1:=by omega
  have I:=dA (tick:=S.tick) n h.dir j
  have m:∀k,∀v∈ofD (yV S.D (zD S.D x) (S.last+1) S.tick) k,v∈ofD S.D k∨(v.stamp=S.last+1/\yZ v.val=true/\xN k.1 k.2=true):=fun k v d=>by
   rw [zAn j] at d
   split at d
   ·next c f =>
    obtain ⟨r,L⟩:=zNB f;unfold tY at d
    rcases List.mem_append.1 d with d|d
    ·exact xac d
    rw [List.mem_singleton.1 d];refine xaf ⟨rfl,?_,by rw [<-L];exact (B c r).1⟩;show yZ (if c.il then c.is else [])=true
    split
    ·next hil=>exact (B c r).2 hil
    rfl
   exact xac d
  refine ⟨I,fun k v d=>?_,fun k p=>?_,fun k v d=>?_,G,by show S.floor<=S.last+1;omega,by grind,h.tick,h.tk,fun s o=>?_,fun z F=>?_,?_⟩
  ·show v.stamp<=S.last+1
   rcases m k v d with q|q
   ·have:=h.low k v q;omega
   omega
  ·obtain ⟨v,d⟩:=List.exists_mem_of_ne_nil _ p
   rcases m k v d with q|q
   ·exact h.key k (List.ne_nil_of_mem q)
   grind
  ·rcases m k v d with q|q
   ·exact h.may k v q
   grind
  ·show s<=S.last+1
   have:=h.tkl s o;omega
  ·have g:=u.txs z F;have J:z.snap<=S.last:=g.hi;refine ⟨g.lo,by grind,g.fl,g.wr,fun H k p=>?_⟩;have:=g.dead H k p;show ((atV (ofD (yV S.D (zD S.D x) (S.last+1) S.tick) k) z.snap).getD zeroV).live=true;rw [zEd n h.dir j (s:=S.last) (by omega) J];exact this
  show (zT (yV S.D (zD S.D x) (S.last+1) S.tick):Int)<=S.vers
  rw [jO n h.dir j];omega
 have E:(0:Int)<=(if zD S.D x=[] then yA S i { x with ended:=true } else { yA S i { x with ended:=true } with last:=S.last+1,D:=yV S.D (zD S.D x) (S.last+1) S.tick }).last:=by
  have a:=e.fl0;have b:=e.fl;omega
 unfold uE;simp only
 generalize (if zD S.D x=[] then yA S i { x with ended:=true } else { yA S i { x with ended:=true } with last:=S.last+1,D:=yV S.D (zD S.D x) (S.last+1) S.tick })=S2 at *
 split
 ·exact e
 refine ⟨e.dir,e.low,e.key,e.may,e.fl0,e.fl,e.top,e.tick,zDB (zKF e.tk _ E) _,fun s o=>?_,e.txs,e.cnt⟩
 rcases zNO (t:=S2.tk) o with q|q
 ·exact e.tkl s q
 grind
theorem zI0 (h:OkS S) {i:Nat} {x:Tx} (a:OkX S.D S.floor S.last x):OkS (zU S i x).2:=by grind [zU,zCA,zF1,zOQ]
end
def qD (w:World) (g o:Nat):Nat->List Value->World
 | _,[]=>w
 | k,u::r=>qD (w.setCell ⟨g,o+k,none⟩ u) g o (k+1) r
def zIO (o:Nat):Nat->List Value->List Value->List Value
 | _,[],xs=>xs
 | k,u::r,xs=>zIO o (k+1) r (xs.set (o+k) u)
theorem zGy (o:Nat):∀(k:Nat) (us a:List Value) (j:Nat),o+k+us.length<=a.length->(zIO o k us a)[j]? = if o+k<=j/\j<o+k+us.length then us[j-(o+k)]? else a[j]?
 | k,[],a,j,_=>by grind [zIO]
 | k,u::r,a,j,h=>by
  unfold zIO;rw [xa3] at h;rw [zGy o (k+1) r _ j (by grind),xbS]
  grind
theorem zC.cells_setL {α:Type} (K:zC α) (d:List α) (i:Nat) (h:i<d.length) (x:α):K.cells (d.set i x)=zIO (i * K.k) 0 (K.enc x) (K.cells d):=by
 apply xaU
 intro j;have a:(i+1) * K.k<=d.length * K.k:=xa1 _ h;rw [xbQ,Nat.one_mul] at a;rw [K.cells_set d i h x j,zGy _ _ _ _ _ (by rw [K.len,K.cells_len];omega),K.len,Nat.add_zero]
theorem jW {N:Nat} {e:TypeId} {b g n c o:Nat}:∀(k:Nat) (us a:List Value) (w:World),w.ownsRow N e b (.slice (some ⟨g,0,none⟩) n c) n a->(qD w g o k us).ownsRow N e b (.slice (some ⟨g,0,none⟩) n c) n (zIO o k us a)
 | _,[],_,_,h=>h
 | k,u::r,a,w,h=>by
  unfold qD zIO;exact jW (k+1) r _ _ (xbc h (o+k) u).1
theorem zDI (W:World):wH W (.slice none 0 0) []/\yW []/\xO []:=⟨⟨none,0,rfl,xac rfl,fun _ h=>by simp at h⟩,⟨by grind,fun _ h=>by simp at h⟩,⟨by simp,fun _ h=>by simp at h⟩⟩
def zEh (fs:List Fd):Prop:=fs.Pairwise fun x y=>∀k,zIq x.v k->¬ zIq y.v k
def cT (w:World) (l:List Fnd) (e:Ending) (w':World):Prop:=∃u fs,e=.returned u/\KFd.Own w.heap.size w' u fs/\(∀f∈fs,zW w.heap.size w' f.v.sl f.v.o/\yW f.v.o)/\zEh fs/\fs.map Fd.fnd=l/\Below w.heap.size w w'
def kL (W:World) (L:List yI) (k:Ky) (e:Ending) (w':World):Prop:=∃p c o,e=.returned (.tuple #[.slice p o.length c,.bool (xM (yH L k)),.bool (yH L k).isSome])/\zW W.heap.size w' (.slice p o.length c) o/\o.map Fx.fld=jZ (yH L k)/\Below W.heap.size W w'
def zD0 (W:World) (l:List Ky) (e:Ending) (w':World):Prop:=∃u,e=.returned u/\KK.Own W.heap.size w' u l/\Below W.heap.size W w'
section
open Go.RowKit Go.Maps
section
variable {W':World}
structure dZ (κ ε:Type) where
 K:TypeId
 E:TypeId
 M:TypeId
 key:κ->Value
 lit:κ->Lit
 fit:κ->Prop
 val:ε->Value
 enc:ε->DataW Unit
 read:Value->Option (DataW Unit × List MemPlace)
 zero:ε
 und:prog.underlying M=some (.map K E)
 keyed:Keyed prog K
 key_is:∀x,fit x->keyOf prog K (key x)=some (lit x)
 key_fit:∀x l,keyOf prog K (key x)=some l->fit x/\l=lit x
 key_inv:∀v l,keyOf prog K v=some l->∃x,v=key x
 lit_inj:∀x y,fit x->fit y->lit x=lit y->x=y
 read_mk:∀e,read (val e)=some (enc e,[])
 read_inv:∀v y,read v=some y->∃e,v=val e
 enc_inj:∀a b,enc a=enc b->a=b
 zeroV:∀w,(zeroValue E).run prog w=.ok (val zero) w
def uZ {κ ε:Type} (T:dZ κ ε) (W:World) (m n:Nat) (f:κ->Option ε) (c:Nat):Prop:=∃D:DataW Unit,W.ownsMap prog T.K T.read m n D/\(∀k,T.fit k->D.atKey (T.lit k) (T.enc T.zero)=T.enc ((f k).getD T.zero))/\(∀k,T.fit k->Maps.has D (T.lit k)=(f k).isSome)/\Maps.size D=c
section
variable {κ ε:Type} {T:dZ κ ε} {W:World} {m n:Nat} {f:κ→Option ε} {c:Nat}
theorem zEM (T:dZ κ ε) (w:World):uZ T (w.alloc (.map #[] 0)) w.heap.size 0 (fun _=>none) 0:=⟨.map [],World.ownsMap_made _ _ _ _,fun _ _=>rfl,fun _ _=>rfl,rfl⟩
theorem uZ.lt (h:uZ T W m n f c):m<W.heap.size:=by obtain ⟨D,h,_⟩:=h;exact h.lt
theorem uZ.on (h:uZ T W m n f c) (i:W'.heap[m]? = W.heap[m]?):uZ T W' m n f c:=by
 obtain ⟨D,⟨b,e,g,j⟩,d⟩:=h;exact ⟨D,⟨b,e,i.trans g,j⟩,d⟩
theorem uZ.congr {b:κ->Option ε} (h:uZ T W m n f c) (l:∀k,T.fit k->f k=b k):uZ T W m n b c:=by
 obtain ⟨D,e,i,j,g⟩:=h;exact ⟨D,e,fun k d=>by grind,fun k d=>by grind,g⟩
theorem uZ.obj (h:uZ T W m n f c):∃b d,W.heap[m]? = some (.map b d):=by
 obtain ⟨D,⟨b,d,g,i⟩,e⟩:=h
 grind
theorem uZ.off (h:uZ T W m n f c) {b:Nat} {cs:Array Value} {t:TypeId} {d:Nat × Nat} (j:W.heap[b]? = some (.cells cs t d)):b≠m:=by
 obtain ⟨e,g,i⟩:=h.obj
 grind
theorem uK (h:uZ T W m n f c) {k:κ} (b:T.fit k):(Instr.lookup T.M (.map (some m)) (T.key k) true).run prog W=.ok (.tuple #[T.val ((f k).getD T.zero),.bool (f k).isSome]) W:=by
 obtain ⟨D,d,e,g,_⟩:=h;obtain ⟨v,ps,hrun,hv⟩:=d.look_ok T.keyed T.und (T.zeroV _) (T.read_mk T.zero) (T.key_is k b);obtain ⟨o,rfl⟩:=T.read_inv _ _ hv;rw [T.read_mk,e k b] at hv;injection hv with hv
 injection hv with hv
 rw [<-T.enc_inj _ _ hv,<-g k b];exact hrun
theorem zCs [DecidableEq κ] (h:uZ T W m n f c) {k:κ} (b:T.fit k) (l:n<maxLen) (e:ε):∃w',(Instr.mapUpdate T.M (.map (some m)) (T.key k) (T.val e)).run prog W=.ok () w'/\uZ T w' m (n+1) (fun y=>if y=k then some e else f y) (if (f k).isSome then c else c+1)/\W.grownBy w' (some m):=by
 obtain ⟨D,g,p,i,q⟩:=h;obtain ⟨w',hrun,hD',hg⟩:=g.update T.keyed T.und l (T.key_is k b) (T.read_mk e);have j:=T.keyed.key (T.key_is k b);refine ⟨w',hrun,⟨_,hD',fun y d=>?_,fun y d=>?_,?_⟩,hg⟩
 ·by_cases e1:y=k
  ·subst e1;simp only [if_true];exact atKey_put_same g.isMap j _ _
  simp only [xag e1];rw [atKey_put_other (fun h=>e1 (T.lit_inj _ _ d b h))];exact p y d
 ·by_cases e1:y=k
  ·subst e1;simp only [if_true];exact has_put_same g.isMap j _
  simp only [xag e1];rw [has_put_other (fun h=>e1 (T.lit_inj _ _ d b h))];exact i y d
 rw [size_put (g.tidy T.keyed),i k b,q]
theorem zH5 [DecidableEq κ] (h:uZ T W m n f c) {k:κ} (d:T.fit k) (i:TypeId):∃w' c',(Builtin.delete_ #[T.M,T.K] i #[.map (some m),T.key k]).run prog W=.ok (.tuple #[]) w'/\uZ T w' m n (fun y=>if y=k then none else f y) c'/\c'+(if (f k).isSome then 1 else 0)=c/\W.grownBy w' (some m)/\w'.heap.size=W.heap.size:=by
 obtain ⟨D,g,j,e,l⟩:=h;obtain ⟨w',hrun,hD',hg⟩:=g.drop T.keyed T.und (T.key_is k d) i;refine ⟨w',_,hrun,⟨_,hD',fun y b=>?_,fun y b=>?_,rfl⟩,?_,hg.grown,?_⟩
 ·by_cases e1:y=k
  ·subst e1;simp only [if_true];exact atKey_del_same _
  simp only [xag e1];rw [atKey_del_other (fun h=>e1 (T.lit_inj _ _ b d h))];exact j y b
 ·by_cases e1:y=k
  ·subst e1;simp only [if_true];exact has_del_same
  simp only [xag e1];rw [has_del_other (fun h=>e1 (T.lit_inj _ _ b d h))];exact e y b
 ·rw [<-e k d,size_del (g.tidy T.keyed),l]
 obtain ⟨p,s,u,q,t,rfl⟩:=hg;simp [ChangeMaps.setBlock]
theorem zMz (h:uZ T W m n f c) (b:TypeId):(Builtin.len_ #[T.M] b #[.map (some m)]).run prog W=.ok (.int .i64 c) W:=by
 obtain ⟨D,d,_,_,rfl⟩:=h;exact d.len T.und b
end
def wD {κ ε:Type} (T:dZ κ ε) (W:World) (m r n:Nat) (f:κ->Option ε) (c:Nat) (seen:List κ) (cnt:Nat):Prop:=∃(D:DataW Unit) (left:Lit->Bool),W.ranges prog T.K T.read m r n D left cnt/\(∀k,T.fit k->D.atKey (T.lit k) (T.enc T.zero)=T.enc ((f k).getD T.zero))/\(∀k,T.fit k->Maps.has D (T.lit k)=(f k).isSome)/\Maps.size D=c /\
  (∀k,T.fit k->(left (T.lit k)=true↔(f k).isSome=true/\k ∉ seen))/\seen.Nodup/\(∀k∈seen,T.fit k/\(f k).isSome=true)/\seen.length+cnt<=c
section
variable {κ ε:Type} {T:dZ κ ε} {W:World} {m r n:Nat} {f:κ→Option ε} {c:Nat} {seen:List κ} {cnt:Nat}
theorem wD.left_eq (h:wD T W m r n f c seen cnt):W.rangeLeft m r=cnt:=by
 obtain ⟨D,left,b,_⟩:=h;exact b.left_eq
theorem wD.map (h:wD T W m r n f c seen cnt):uZ T W m n f c:=by
 obtain ⟨D,left,d,g,b,e,_⟩:=h;exact ⟨D,d.owns,g,b,e⟩
theorem wD.lt (h:wD T W m r n f c seen cnt):r<W.heap.size:=by
 obtain ⟨D,left,b,_⟩:=h;exact b.lt
theorem wD.nodup (h:wD T W m r n f c seen cnt):seen.Nodup/\(∀k∈seen,T.fit k/\(f k).isSome=true)/\seen.length+cnt<=c:=by
 obtain ⟨D,left,d,_,_,_,_,g,b,e⟩:=h
 grind
theorem wD.iter (h:wD T W m r n f c seen cnt):∃d b e,W.heap[r]? = some (.mapIter (some m) d b e):=by
 obtain ⟨D,left,⟨g,i,d,b,e,_,_,_,_,j,_⟩,_⟩:=h
 grind
theorem wD.on (h:wD T W m r n f c seen cnt) (l:W'.heap[m]? = W.heap[m]?) (p:W'.heap[r]? = W.heap[r]?):wD T W' m r n f c seen cnt:=by
 obtain ⟨D,left,⟨b,d,g,e,s,i,k,q,j,v,t⟩,u⟩:=h;exact ⟨D,left,⟨b,d,g,e,s,l.trans i,k,q,j,p.trans v,t⟩,u⟩
end
section
variable {κ ε:Type} {T:dZ κ ε} (w:World) {ops:Array Oper} {rest:List Oper} {o:Oper} {a:Act} {Q:Exit→Act→World→Prop}
theorem zC8 (u:o.guard=none) (d:Operand) (v:o.op=Op.range T.M d) (m n:Nat) (f:κ->Option ε) (c:Nat) (l:a.eval d=.map (some m)) (h:uZ T w m n f c)
  (hK:∀b,wD T b m w.heap.size n f c [] c->w.grownBy b none->b.heap.size=w.heap.size+1->wpList prog ops Q rest (a.put o.dst (.pointer (some ⟨w.heap.size,0,none⟩))) b):wpList prog ops Q (o::rest) a w:=by
 obtain ⟨D,t,s,j,i⟩:=h;refine wpList_range_own w u d _ v _ _ T.keyed T.und T.read m n D l t fun b g p q=>hK b ?_ p q
 rw [i] at g;exact ⟨D,_,g,s,j,i,fun k e=>by grind,List.nodup_nil,fun k e=>by simp at e,by simp⟩
theorem zE6 (I:o.guard=none) (l:Operand) (K:o.op=Op.next l false) (m r n:Nat) (f:κ->Option ε) (c:Nat) (seen:List κ) (cnt:Nat) (E:a.eval l=.pointer (some ⟨r,0,none⟩)) (h:wD T w m r n f c seen cnt)
  (hDone:(∀k,T.fit k->(f k).isSome=true->k∈seen)->wpList prog ops Q rest (a.put o.dst (.tuple #[.bool false])) w)
  (hMore:∀(k:κ) (e:ε) (b:World) (g:Nat),T.fit k->k ∉ seen->f k=some e->wD T b m r n f c (seen++[k]) g->g<cnt->w.grownBy b (some r)->b.heap.size=w.heap.size ->
   (Instr.entry (.pointer (some ⟨r,0,none⟩))).run prog b=.ok (.tuple #[T.key k,T.val e]) b->wpList prog ops Q rest (a.put o.dst (.tuple #[.bool true,T.key k,T.val e])) b):wpList prog ops Q (o::rest) a w:=by
 obtain ⟨D,left,t,p,A,J,s,S,P,R⟩:=h;refine wpList_next_ranges w I l K _ T.keyed T.read T.key T.val T.key_inv T.read_inv m r n D left cnt E t (fun _ O=>hDone fun k d M=>?_) fun x e N y b g z B j L G u H C F=>?_
 ·grind
 obtain ⟨i,rfl⟩:=T.key_fit _ _ z;have q:(f x).isSome=true/\x ∉ seen:=(s x i).1 B;obtain ⟨e',he'⟩:=Option.isSome_iff_exists.1 q.1
 have v:e=e':=by
  rw [T.read_mk] at j;injection j with j
  have:=L (T.enc T.zero);rw [<-j,p x i,he'] at this;exact (T.enc_inj _ _ this).symm
 subst v;refine hMore x e b g i q.2 he' ⟨D,_,G,p,A,J,fun k d=>?_,?_,fun k d=>?_,by grind⟩ u H C F
 ·show (left (T.lit k) && !(T.lit k).sameKey (T.lit x))=true↔_
  rw [xaP,s k d]
  by_cases e1:k=x
  ·subst e1;rw [WideAt.sameKey_self (T.keyed.key (T.key_is k d))];simp
  rw [sameKey_ne (fun h=>e1 (T.lit_inj _ _ d i h))];simp [e1]
 ·grind
 grind
end
end
end
section
open Go.RowKit Go.Maps
section
variable {W':World}
theorem uZ.tight {κ ε:Type} {T:dZ κ ε} {W:World} {m n:Nat} {f:κ->Option ε} {c:Nat} (h:uZ T W m n f c):uZ T W m c f c:=by
 obtain ⟨D,⟨a,b,d,i,o,e⟩,l,j,k⟩:=h;refine ⟨D,⟨a,b,d,i,?_,e⟩,l,j,k⟩
 grind [Maps.size,length_sorted]
structure We where
 live:Bool
 p:Option Nat
 len:Nat
 cap:Nat
def We.sl (e:We):Value:=.slice (e.p.map fun b=>⟨b,0,none⟩) e.len e.cap
def We.val (e:We):Value:=.agg #[.bool e.live,e.sl]
def zPt (p:Option Nat):Int:=match p with|none=>-1|some b=>(b:Int)
def We.enc (e:We):DataW Unit:=.agg [.lit (.bool e.live),.lit (.int .i64 (zPt e.p)),.lit (.int .i64 (e.len:Int)),.lit (.int .i64 (e.cap:Int))]
theorem zMi {p q:Option Nat} (h:zPt p=zPt q):p=q:=by
 cases p<;>cases q<;>simp only [zPt] at h
 ·rfl
 ·omega
 ·omega
 grind
theorem We.val_inj {a b:We} (h:a.val=b.val):a=b:=by
 obtain ⟨l,p,n,c⟩:=a;obtain ⟨l',p',n',c'⟩:=b;simp only [We.val,We.sl,Value.agg.injEq,Array.mk.injEq,xbs,Value.bool.injEq,Value.slice.injEq] at h;obtain ⟨rfl,⟨h2,rfl,rfl⟩,_⟩:=h;have:p=p':=by cases p<;>cases p'<;>simp_all
 rw [this]
theorem We.enc_inj {a b:We} (h:a.enc=b.enc):a=b:=by
 obtain ⟨l,p,n,c⟩:=a;obtain ⟨l',p',n',c'⟩:=b;simp only [We.enc,DataW.agg.injEq,xbs,DataW.lit.injEq,Lit.bool.injEq,Lit.int.injEq,true_and] at h
 grind [zMi]
open Classical in
noncomputable def MW:dZ Ky We where
 K:=36
 E:=191
 M:=162
 key:=nH
 lit:=mV
 fit:=yO
 val:=We.val
 enc:=We.enc
 read v:=if h:∃e,v=We.val e then some (We.enc h.choose,[]) else none
 zero:=⟨false,none,0,0⟩
 und:=underlying162
 keyed:=Tryz.keyedKey
 key_is _ h:=nR h
 key_fit _ _ h:=zCK h
 key_inv v l h:=zGm v l h
 lit_inj _ _ hx hy h:=zAC hx hy h
 read_mk e:=by
  have h:∃e',We.val e=We.val e':=⟨e,rfl⟩;rw [dif_pos h,<-We.val_inj h.choose_spec]
 read_inv v y h:=by grind
 enc_inj _ _ h:=We.enc_inj h
 zeroV w:=by kernel_rfl
def fS (L:List yI) (F:Ky->We) (k:Ky):Option We:=(yH L k).map fun _=>F k
def zLo (n0:Nat) (W:World) (e:We) (o:List Fx) (r:Wr):Prop:=e.live=r.isSome/\zW n0 W e.sl o/\o.map Fx.fld=jZ (some r)
structure sT (n0:Nat) (W:World) (B:Nat->Prop) (g m:Nat) (F:Ky->We) (O:Ky->List Fx) (L:List yI):Prop where
 obj:W.heap[g]? = some (.cells #[.map (some m)] 164 (0,0))
 map:uZ MW W m L.length (fS L F) L.length
 row:∀k r,yH L k=some r->zLo n0 W (F k) (O k) r
 gle:n0<=g
 mle:n0<=m
 ok:OkW L
 blk:∀j,B j↔j=g∨j=m∨∃k,(yH L k).isSome=true/\nF (F k).sl (O k) j
def qP (n0:Nat) (W:World) (B:Nat->Prop) (g:Nat) (L:List yI):Prop:=∃m F O,sT n0 W B g m F O L
section
variable {n0:Nat} {W:World} {B:Nat→Prop} {g m:Nat} {F:Ky→We} {O:Ky→List Fx} {L:List yI}
theorem sT.cell (h:sT n0 W B g m F O L):W.cell? ⟨g,0,none⟩=some (.map (some m)):=by rw [zaC h.obj];rfl
theorem sT.bounds (h:sT n0 W B g m F O L) (k:Nat) (a:B k):n0<=k/\k<W.heap.size:=by
 rcases (h.blk k).1 a with rfl|rfl|⟨j,hj,b⟩
 ·exact ⟨h.gle,(gA h.obj).1⟩
 ·exact ⟨h.mle,h.map.lt⟩
 obtain ⟨r,c⟩:=Option.isSome_iff_exists.1 hj;exact yL (h.row j r c).2.1 k b
theorem sT.fr {P:Nat->Prop} (h:sT n0 W B g m F O L) (f:Fr P W W') (b:∀k,B k->¬ P k):sT n0 W' B g m F O L:=⟨(f.block g (gA h.obj).1 (b g ((h.blk g).2 (xac rfl)))).trans h.obj,h.map.on (f.block m h.map.lt (b m ((h.blk m).2 (xaf (xac rfl))))),
  fun k r a=>⟨(h.row k r a).1,yC (h.row k r a).2.1 f fun j hj=>b j ((h.blk j).2 (xaf (xaf ⟨k,by rw [a];rfl,hj⟩))),(h.row k r a).2.2⟩,h.gle,h.mle,h.ok,h.blk⟩
theorem sT.on (h:sT n0 W B g m F O L) (a:Below W.heap.size W W'):sT n0 W' B g m F O L:=h.fr (P:=fun _=>False) (Fr.of_below a) fun _ _ k=>k
theorem sT.off (h:sT n0 W B g m F O L) {k:Ky} {r:Wr} (c:yH L k=some r) {j:Nat} (hj:nF (F k).sl (O k) j):j≠m:=by
 have b:=(h.row k r c).2.1
 rcases hj with hj|⟨f,d,hj⟩
 ·obtain ⟨e,a⟩:=zV b.1.1 hj;exact h.map.off a
 obtain ⟨e,a⟩:=zV (b.1.2 f d) hj;exact h.map.off a
end
theorem bY (g m:Nat) (W:World) (b:W.cell? ⟨g,0,none⟩=some (.map (some m))):CC 103 #[.pointer (some ⟨g,0,none⟩)] W fun e a=>e=.returned (.map (some m))/\a=W:=by
 go_enter func103,ntmps103
 go_wp2_with fail
 go_ret;exact ⟨rfl,rfl⟩
theorem zGo (n0:Nat) (W:World) (h:n0<=W.heap.size):CC 41 #[] W fun e b=>∃B g,e=.returned (.pointer (some ⟨g,0,none⟩))/\qP n0 b B g []/\Below W.heap.size W b/\∀k,B k->W.heap.size<=k:=by
 have l:=@run_makeMap prog;have i:Bw W ((W.alloc (.map #[] 0)).alloc (.cells #[.map (some W.heap.size)] 164)):=(zaQ).alloc (by simp) _
 have f:Hid (qP n0 ((W.alloc (.map #[] 0)).alloc (.cells #[.map (some W.heap.size)] 164)) (fun k=>k=W.heap.size+1∨k=W.heap.size) (W.heap.size+1) []):=by
  have a:=xab (W.alloc (.map #[] 0)) (.cells #[.map (some W.heap.size)] 164);rw [xba] at a;refine ⟨W.heap.size,fun _=>⟨false,none,0,0⟩,fun _=>[],a,?_,fun k r d=>(by cases d),by omega,h,zKK,fun k=>?_⟩
  ·exact ((zEM MW W).on (xaG _ _ _ (by simp))).congr fun k _=>rfl
  simp [yH]
 have j:=hid i;go_enter func41,ntmps41;go_wp2_with fail;go_ret;exact ⟨_,_,rfl,f.o,j.o,fun k c=>by rcases c with rfl|rfl<;>omega⟩
theorem nP (v:Value) (d:List Fx) (w:World) (n:wH w v d) (S:yW d) (A:xO d):CC 124 #[v] w fun e C=>∃u o,e=.returned u/\zW w.heap.size C u o/\o.map Fx.fld=d.map Fx.fld/\Below w.heap.size w C:=by
 have G:=hid (zDS v d w n A.1);have E:=hid n.at_all;have K:=hid A.2;have I:=S.1;unfold maxLen at I;go_enter func124,ntmps124;go_wp2_with fail;refine G.o.mono ?_;rintro e Y ⟨u,rfl,q,M⟩;have P:=hid (cZ.start q M)
 obtain ⟨p,f,rfl,D⟩:∃p f,u=sc p d.length f/\(0<d.length->∃g,p=some (aa g 0)):=by
  rcases q.2 with ⟨b,l⟩|⟨g,f,_,b,_⟩
  ·exact ⟨none,0,by rw [l];exact b,fun h=>by omega⟩
  exact ⟨_,_,b,fun _=>⟨g,rfl⟩⟩
 have Q:=hid D;go_wp2_with fail
 go_loopg [9] d.length (fun gg J wr=>∃(i:Nat) (o:List Fx),J=ii i/\i<=d.length/\d.length-i<=gg/\Hid (cZ w (sc p d.length f) d i o wr))
 case atStart=>exact ⟨0,[],rfl,by omega,by omega,P.o⟩
 obtain ⟨i,o,rfl,hi,X,a⟩:=hrel
 by_cases hlt:i<d.length
 ·have R:(i:Int)<(d.length:Int):=by omega
  have T:(0:Int)<=i:=by omega
  obtain ⟨g,rfl⟩:=Q.o (by omega);obtain ⟨c0,f0⟩:=a.o.cells hlt wr (zaR _ _);have y:=hid (a.o.cells hlt);have s:=hid (mW (d[i]).p (d[i]).cap (d[i]).txt wr ((E.o _ (zaN hlt)).kept a.o.bel) (K.o _ (zaN hlt)));have r:Hid (∀k c j,Bw wr k->tR wr.z k (sc c (d[i]).txt.length j) (d[i]).txt->cZ w (sc (some (aa g 0)) d.length f) d (i+1) (o++[⟨(d[i]).name,c,j,(d[i]).txt⟩]) (k.setCell (aa g (i * 2+1)) (sc c (d[i]).txt.length j))):=fun k c j b l=>a.o.next hlt b l
  generalize d[i]=x at *
  obtain ⟨U,c,j,V⟩:=x;simp only [Fx.sl] at c0 y s r;go_wp2_with fail;refine s.o.mono ?_;rintro e w5 ⟨sv,rfl,hot5,hb5⟩;obtain ⟨p6,c6,rfl⟩:=pH hot5;obtain ⟨q0,q1⟩:=y.o w5 hb5;have N:=hid (r.o w5 p6 c6 hb5 hot5);go_wp2_with fail;go_roundg (d.length-(i+1))
  case measure=>omega
  exact ⟨i+1,_,by go_num,by omega,by omega,N.o⟩
 have R:¬ (i:Int)<(d.length:Int):=by omega
 have t:=hid (a.o.done hlt);have H:=hid a.o.bel;go_wp2_with fail;go_ret;exact ⟨_,rfl,o,t.o.1,t.o.2,H.o⟩
end
end
section
open Go.RowKit Go.Maps
section
variable {k:Ky} {L:List yI} {W3 w4:World}
theorem zPL:∀{L:List yI},(∀y∈L,y.1≠k)->qX L k=L:=fun {L} h=>List.filter_eq_self.2 fun y a=>by simp [h y a]
theorem bE {k:Ky}:∀{L:List yI},(L.Pairwise fun x y=>yR x.1 y.1=true)->(qX L k).length+(if (yH L k).isSome=true then 1 else 0)=L.length
 | [],_=>rfl
 | y::r,h=>by
  obtain ⟨a,b⟩:=List.pairwise_cons.1 h
  by_cases e:y.1=k
  ·have f:∀z∈r,z.1≠k:=fun z d c=>by
    have:=a z d;rw [e,c,wX.irr] at this
    cases this
   have i:qX (y::r) k=r:=by
    show List.filter _ (y::r)=r
    rw [List.filter_cons_of_neg (by simp [e])];exact zPL f
   grind [yH]
  have j:=bE (k:=k) b
  grind [qX,yH]
theorem zHj (h:OkW L) (k:Ky) (e:Wr):(pB L k e).length=if (yH L k).isSome=true then L.length else L.length+1:=by
 have:=bE (k:=k) h.rise;unfold pB;rw [zAY]
 grind
theorem dD {F:Ky->We}:(fS L F k).isSome=(yH L k).isSome:=by grind [fS]
def tJ (n0:Nat) (W:World) (B:Nat->Prop) (g:Nat) (L:List yI) (w':World):Prop:=∃B',qP n0 w' B' g L/\Fr B W w'/\∀k,B' k->B k∨W.heap.size<=k
section
variable {n0:Nat} {W:World} {B:Nat→Prop} {g m:Nat} {F:Ky→We} {O:Ky→List Fx} {L:List yI}
theorem tJ.below {b:World} (h:sT n0 W B g m F O L) (a:Below W.heap.size W b):tJ n0 W B g L b:=⟨B,⟨m,F,O,h.on a⟩,Fr.of_below a,fun _ c=>xac c⟩
def zRs (g m:Nat) (F:Ky->We) (O:Ky->List Fx) (L:List yI) (j:Nat):Prop:=j=g∨j=m∨∃k,(yH L k).isSome=true/\nF (F k).sl (O k) j
theorem sT.old (h:sT n0 W B g m F O L) {W3 w4:World} (c:Below W.heap.size W W3) (d:W3.grownBy w4 (some m)) {k:Ky} {r:Wr} (b:yH L k=some r):zLo n0 w4 (F k) (O k) r:=by
 have a:=(h.on c).row k r b;exact ⟨a.1,yC a.2.1 (Fr.of_grown (P:=fun j=>j=m) d fun j hj=>by grind) fun j hj e=>(h.on c).off b hj e,a.2.2⟩
theorem sT.turned (h:sT n0 W B g m F O L) {W3 w4:World} (c:Below W.heap.size W W3) (b:W3.grownBy w4 (some m)):w4.heap[g]? = some (.cells #[.map (some m)] 164 (0,0))/\Fr B W w4:=by
 have a:=h.on c;refine ⟨(b.block g (gA a.obj).1 (fun e=>a.map.off a.obj (by injection e))).trans a.obj,?_⟩;exact Fr.then (Fr.of_below c) (Fr.of_grown (P:=fun j=>j=m) b fun j hj=>by grind) fun j hj=>xac ((h.blk j).2 (xaf (xac hj)))
theorem sT.lay (h:sT n0 W B g m F O L) (q:n0<=W.heap.size) {W3 w4:World} (d:Below W.heap.size W W3) (k:Ky) (f:xN k.1 k.2=true) (e:We) (o:List Fx) (r:Wr) (i:∀v,r=some v->yZ v=true) (a:zLo W.heap.size W3 e o r)
  (hM:uZ MW w4 m (L.length+1) (fun y=>if y=k then some e else fS L F y) (if (fS L F k).isSome then L.length else L.length+1)) (hg:W3.grownBy w4 (some m)):tJ n0 W B g (pB L k r) w4:=by
 obtain ⟨n,l⟩:=h.turned d hg;have w:m<W.heap.size:=h.map.lt
 have s:zLo n0 w4 e o r:=by
  refine ⟨a.1,zM (yC a.2.1 (Fr.of_grown (P:=fun j=>j=m) hg fun j hj=>by grind) fun j hj u=>?_) q,a.2.2⟩;have:=(yL a.2.1 j hj).1;omega
 have p:=zHj h.ok k r;rw [dD,<-p] at hM;refine ⟨zRs g m (fun y=>if y=k then e else F y) (fun y=>if y=k then o else O y) (pB L k r),⟨m,fun y=>if y=k then e else F y,fun y=>if y=k then o else O y,n,hM.tight.congr fun y _=>?_,fun y t c=>?_,h.gle,h.mle,zFU h.ok k r f i,fun j=>xbE⟩,l,fun j hj=>?_⟩
 ·unfold fS;rw [fE]
  grind
 ·rw [fE] at c
  by_cases ey:y=k
  ·grind
  rw [xag ey] at c;simp only [xag ey];exact h.old d hg c
 rcases hj with rfl|rfl|⟨y,b,hj⟩
 ·exact xac ((h.blk _).2 (xac rfl))
 ·exact xac ((h.blk _).2 (xaf (xac rfl)))
 rw [fE] at b
 by_cases ey:y=k
 ·simp only [xae ey] at hj;exact xaf (yL a.2.1 j hj).1
 rw [xag ey] at b;simp only [xag ey] at hj;exact xac ((h.blk j).2 (xaf (xaf ⟨y,b,hj⟩)))
theorem sT.gone (h:sT n0 W B g m F O L) {W3 w4:World} (d:Below W.heap.size W W3) (k:Ky) {b:Nat}
  (hM:uZ MW w4 m L.length (fun y=>if y=k then none else fS L F y) b) (hc:b+(if (fS L F k).isSome then 1 else 0)=L.length) (hg:W3.grownBy w4 (some m)):tJ n0 W B g (qX L k) w4:=by
 obtain ⟨f,e⟩:=h.turned d hg;have l:=bE (k:=k) h.ok.rise;rw [dD] at hc;have i:b=(qX L k).length:=by omega
 rw [i] at hM;refine ⟨zRs g m F O (qX L k),⟨m,F,O,f,hM.tight.congr fun y _=>?_,fun y n c=>?_,h.gle,h.mle,zFN h.ok k,fun j=>xbE⟩,e,fun j hj=>?_⟩
 ·unfold fS;rw [fL]
  grind
 ·rw [fL] at c
  by_cases ey:y=k
  ·grind
  rw [xag ey] at c;exact h.old d hg c
 rcases hj with rfl|rfl|⟨y,a,hj⟩
 ·exact xac ((h.blk _).2 (xac rfl))
 ·exact xac ((h.blk _).2 (xaf (xac rfl)))
 rw [fL] at a
 by_cases ey:y=k
 ·grind
 rw [xag ey] at a;exact xac ((h.blk j).2 (xaf (xaf ⟨y,a,hj⟩)))
end
end
end
structure Dx where
 snap:Int
 stamp:Int
 out:Bool
 m:Mx
 cp:Option Addr
 cc:Nat
 cs:List Cx
 deriving Inhabited
def Dx.csl (x:Dx):Value:=.slice x.cp x.cs.length x.cc
def Dx.dn (x:Dx):Dn:=⟨x.snap,x.stamp,x.out,x.m.mk',x.cs.map Cx.ch⟩
def yN (x:Dx):List Value:=[.int .u64 x.snap,.int .u64 x.stamp,.bool x.out,x.m.ksl,x.m.rsl,x.csl]
def KDx:zC Dx:=⟨131,6,yN,fun _=>rfl,by decide,fun x u hu=>by simp [yN,Mx.ksl,Mx.rsl,Dx.csl] at hu;rcases hu with rfl|rfl|rfl|rfl|rfl|rfl<;>rfl⟩
structure SzD (m:Mx) (cs:List Cx):Prop where
 keys:m.ks.length<=4398046510976
 rows:m.rs.length<=3518437208780
 terms:∀r∈m.rs,r.tm.length<=3518437208780
 chg:cs.length<=1466015503658
 copy:∀c∈cs,xO c.wo/\xO c.io
 kfit:∀k∈m.ks,yE k
 cfit:∀c∈cs,yE (c.a,c.b)
theorem SzD.len {m:Mx} {cs:List Cx} (h:SzD m cs):zPa m:=⟨by have:=h.keys;omega,by have:=h.rows;omega⟩
structure DIn (W:World) (x:Dx):Prop where
 mrk:MIn W x.m
 chg:dX W x.csl x.cs
 sz:SzD x.m x.cs
 snap:0<=x.snap/\x.snap<=18446744073709551615
 stamp:0<=x.stamp/\x.stamp<=18446744073709551615
theorem DIn.on {W b:World} {x:Dx} (h:DIn W x) (a:Below W.heap.size W b):DIn b x:=⟨h.mrk.on a,h.chg.on a,h.sz,h.snap,h.stamp⟩
def zQ7 (Prg:Nat->World->(Nat->Prop)->Nat->Tk->Prop) (n0:Nat) (W:World) (B:Nat->Prop) (g:Nat) (t:Tk) (w':World):Prop:=∃B',Prg n0 w' B' g t/\Fr B W w'/\∀k,B' k->B k∨W.heap.size<=k
def sC (x:Cx) (k:Nat):Prop:=nF (.slice x.wp x.wo.length x.wc) x.wo k∨nF (.slice x.ip x.io.length x.ic) x.io k
structure vS (N:Nat) (W:World) (x:Cx):Prop where
 was:zW N W (.slice x.wp x.wo.length x.wc) x.wo
 is:zW N W (.slice x.ip x.io.length x.ic) x.io
 wfit:yW x.wo
 ifit:yW x.io
 apart:∀k,nF (.slice x.wp x.wo.length x.wc) x.wo k->¬ nF (.slice x.ip x.io.length x.ic) x.io k
 wcp:xO x.wo
 icp:xO x.io
structure kG (N:Nat) (W:World) (x:Dx):Prop where
 mrk:jE N W x.m
 row:KCx.Own N W x.csl x.cs
 each:∀c∈x.cs,vS N W c
 apart:x.cs.Pairwise fun c d=>∀k,sC c k->¬ sC d k
def gE (x:Dx) (k:Nat):Prop:=x.m.ksl.ownBlock=some k∨x.m.rsl.ownBlock=some k∨(∃r∈x.m.rs,r.sl.ownBlock=some k)∨x.csl.ownBlock=some k∨∃c∈x.cs,sC c k
def zMV:Nat->List (List Bool)
 | 0=>[[]]
 | n+1=>(zMV n).map (List.cons false)++(zMV n).map (List.cons true)
theorem zCO:∀l:List Bool,l∈zMV l.length
 | []=>by simp [zMV]
 | false::r=>zaG (xac (List.mem_map.2 ⟨r,zCO r,rfl⟩))
 | true::r=>zaG (xaf (List.mem_map.2 ⟨r,zCO r,rfl⟩))
def jY (base:Array Bool) (L As:List Nat) (k:Nat) (fl:List Bool):Array Bool:=((L.take k)++((As.zip fl).filter (·.2)).map (·.1)).foldl (fun l i=>l.setIfInBounds i true) base
def zNH (md:Region.Mode) (ops:Array Oper) (base:Array Bool) (L As:List Nat) (k:Nat) (fl:List Bool):Bool:=((Region.ready md ops (jY base L As k fl)).all fun i =>
  (decide (L[k]? = some i)&&decide ((jY base L As k fl).setIfInBounds i true=jY base L As (k+1) fl)) ||
  (List.range As.length).any fun j=>decide (As[j]? = some i)&&decide (fl[j]? = some false)&&decide ((jY base L As k fl).setIfInBounds i true=jY base L As k (fl.set j true))) &&
 (!(Region.ready md ops (jY base L As k fl)).isEmpty||(decide (k=L.length)&&fl.all id))
theorem zGd:∀fl:List Bool,fl.all id=true->fl=List.replicate fl.length true
 | [],_=>rfl
 | b::r,h=>by
  simp only [List.all_cons,xaP,id] at h;rw [xa3,List.replicate_succ,h.1,<-zGd r h.2]
theorem zKp:∀(fl:List Bool) (j:Nat),fl[j]? = some false->(fl.set j true).count false+1=fl.count false
 | [],j,h=>by simp at h
 | b::r,0,h=>by grind
 | b::r,j+1,h=>by grind
section
variable {P:Program} {ops:Array Oper} {Q:Exit→Act→World→Prop} {md:Region.Mode} {S:World→Prop}
def zJv (P:Program) (ops:Array Oper) (Q:Exit->Act->World->Prop) (i:Nat) (R:Act->World->Prop) (a:Act) (w:World):Prop:=∃o:Oper,ops[i]? = some o/\∀K':Act->World->Prop,Shut (∀a w,R a w->K' a w)->if Region.wanted o (yielded ops a.tmps)=true then Oper.wp P o a w K' Q else K' (a.put o.dst undef) w
theorem zEz {d:Array Bool} (L c:List Nat) (R:Act->Nat->List Bool->Act->World->Prop) {a0:Act}
  (hchk:((List.range (L.length+1)).all fun k=>(zMV c.length).all fun b=>zNH md ops d L c k b)=true)
  (hS:∀k b a w,R a0 k b a w->S w)
  (hmain:∀k i b a w,L[k]? = some i->b.length=c.length->i∈Region.ready md ops (jY d L c k b)->R a0 k b a w->zJv P ops Q i (R a0 (k+1) b) a w)
  (halloc:∀j i k b a w,c[j]? = some i->k<=L.length->b.length=c.length->b[j]? = some false->R a0 k b a w->zJv P ops Q i (R a0 k (b.set j true)) a w)
  (hend:∀a w,R a0 L.length (List.replicate c.length true) a w->Q .normal a w):∀m k b a w,L.length-k+b.count false<=m->k<=L.length->b.length=c.length->R a0 k b a w->wpAnyH P md ops Q S m (jY d L c k b) a w:=by
 have B:∀k b,k<=L.length->b.length=c.length->zNH md ops d L c k b=true:=fun k b f e=>by grind [zCO]
 have z:∀k b a w,k<=L.length->b.length=c.length->R a0 k b a w->Region.ready md ops (jY d L c k b)=[]->Q .normal a w:=fun k b a w f e g p=>by
  have h:=B k b f e;unfold zNH at h;rw [p] at h;simp only [List.all_nil,List.isEmpty_nil,Bool.not_true,Bool.false_or,Bool.true_and,xaP,xa5] at h
  grind [zGd]
 have y:∀k b,k<=L.length->b.length=c.length->∀i∈Region.ready md ops (jY d L c k b),
   (L[k]? = some i/\(jY d L c k b).setIfInBounds i true=jY d L c (k+1) b)∨∃j,c[j]? = some i/\b[j]? = some false/\(jY d L c k b).setIfInBounds i true=jY d L c k (b.set j true):=fun k b f e i hi=>by grind [zNH]
 intro m
 induction m with
 | zero =>
  intro k b a w A f e g
  have p:Region.ready md ops (jY d L c k b)=[]:=by
   refine List.eq_nil_iff_forall_not_mem.2 fun i hi=>?_
   rcases y k b f e i hi with ⟨l,_⟩|⟨j,_,n,_⟩
   ·grind
   grind
  exact ⟨p,z k b a w f e g p⟩
 | succ m ih =>
 intro k b a w A f e g;refine ⟨z k b a w f e g,fun i hi=>?_⟩
 rcases y k b f e i hi with ⟨l,n⟩|⟨j,l,n,E⟩
 ·obtain ⟨o,q,t⟩:=hmain k i b a w l e hi g;have C:=(gL l).1;refine wpOp_step q fun s u=>t s fun v x r=>u v x ⟨hS _ _ _ _ r,?_⟩
  grind
 obtain ⟨o,q,t⟩:=halloc j i k b a w l f e n g;have D:=zKp b j n;refine wpOp_step q fun s u=>t s fun v x r=>u v x ⟨hS _ _ _ _ r,?_⟩
 grind
theorem zIt (a:Array Bool) (L b:List Nat) (n:Nat):jY a L b 0 (List.replicate n false)=a:=by
 have h:((b.zip (List.replicate n false)).filter (·.2))=[]:=List.filter_eq_nil_iff.2 fun x c=>by
  have:=(List.of_mem_zip (show (x.1,x.2)∈_ from c)).2
  grind
 grind [jY]
theorem uR (L c:List Nat) (R:Act->Nat->List Bool->Act->World->Prop) {e:Nat} {d:Array Bool} {a0:Act} {w:World}
  (hchk:((List.range (L.length+1)).all fun k=>(zMV c.length).all fun b=>zNH md ops d L c k b)=true) (hfuel:L.length+c.length<=e)
  (h0:R a0 0 (List.replicate c.length false) a0 w)
  (hS:∀k b a w,R a0 k b a w->S w)
  (hmain:∀k i b a w,L[k]? = some i->b.length=c.length->i∈Region.ready md ops (jY d L c k b)->R a0 k b a w->zJv P ops Q i (R a0 (k+1) b) a w)
  (halloc:∀j i k b a w,c[j]? = some i->k<=L.length->b.length=c.length->b[j]? = some false->R a0 k b a w->zJv P ops Q i (R a0 k (b.set j true)) a w)
  (hend:∀a w,R a0 L.length (List.replicate c.length true) a w->Q .normal a w):wpAnyH P md ops Q S e d a0 w:=by
 have:=zEz L c R hchk hS hmain halloc hend e 0 (List.replicate c.length false) a0 w (by grind) (xaE _) (by simp) h0
 rwa [zIt] at this
end
def wL (a:Act) (l:List (Nat × Value)):Act:=l.foldl (fun a p=>a.put (some p.1) p.2) a
theorem zNf (a:Act) (i:Nat):a.put (some i) (a.tmps.getD i undef)=a:=by
 obtain ⟨t,d⟩:=a;simp only [Act.put,Act.mk.injEq,and_true];refine Array.ext (by simp) fun j b c=>?_
 rw [Array.getElem_setIfInBounds (by omega)]
 simp_all
theorem pI (a:Act):∀l:List Nat,wL a (l.map fun i=>(i,a.tmps.getD i undef))=a
 | []=>rfl
 | i::r=>by
  have:=pI a r
  grind [wL,zNf]
theorem sP {md:Region.Mode} {ops:Array Oper} {l:Array Bool} {i:Nat} (h:i∈Region.ready md ops l) (a:(Region.ready md ops l).contains i=false):False:=by grind
theorem zJ9 {w:World} {b a:Nat} {d:List Dx} (h:KDx.At w b a d) (i:Nat) (hi:i<d.length):w.cell? ⟨b,a+i * 6,none⟩=some (.int .u64 (d[i]).snap)/\w.cell? ⟨b,a+i * 6+1,none⟩=some (.int .u64 (d[i]).stamp)/\w.cell? ⟨b,a+i * 6+2,none⟩=some (.bool (d[i]).out)/\w.cell? ⟨b,a+i * 6+3,none⟩=some (d[i]).m.ksl/\w.cell? ⟨b,a+i * 6+4,none⟩=some (d[i]).m.rsl/\w.cell? ⟨b,a+i * 6+5,none⟩=some (d[i]).csl:=⟨h i hi 0 _ rfl,h i hi 1 _ rfl,h i hi 2 _ rfl,h i hi 3 _ rfl,h i hi 4 _ rfl,h i hi 5 _ rfl⟩
section
variable {o d:List Fx} {N c:Nat} {w w' W:World} {x:Cx} {L:List Cx} {p:Option Addr} {f2:Bool} {u:Value}
theorem zCG (h:o.map Fx.fld=d.map Fx.fld) (a:yW d):yW o:=zQP h (by have:=xad List.length h;simp at this;have g:=a.1;omega) fun f e=>by
  obtain ⟨y,b,rfl⟩:=List.mem_map.1 e;exact a.2 y b
theorem zAN (h:o.map Fx.fld=d.map Fx.fld) (a:xO d):xO o:=by
 refine ⟨?_,fun x b=>?_⟩
 ·have:=xad List.length h;rw [zaM,zaM] at this;rw [this];exact a.1
 have g:x.fld∈d.map Fx.fld:=by rw [<-h];exact xaI b
 obtain ⟨y,f,e⟩:=List.mem_map.1 g;have i:y.txt=x.txt:=xad Prod.snd e;rw [<-i];exact a.2 y f
def kI (W:World) (l:List Ch) (e:Ending) (w':World):Prop:=∃p c cs,e=.returned (.slice p cs.length c)/\KCx.Own W.heap.size w' (.slice p cs.length c) cs/\(∀x∈cs,vS W.heap.size w' x/\xO x.wo/\xO x.io/\∀b,sC x b->¬ (Value.slice p cs.length c).ownBlock=some b)/\(cs.Pairwise fun c d=>∀k,sC c k->¬ sC d k)/\cs.map Cx.ch=l/\Below W.heap.size W w'
structure zBj (W:World) (L:List Cx) (p:Option Addr) (c:Nat) (w:World):Prop where
 row:yG KCx W.heap.size W (.slice p L.length c) L w
 each:∀x∈L,vS W.heap.size w x/\xO x.wo/\xO x.io/\∀b,sC x b->¬ (Value.slice p L.length c).ownBlock=some b
 apart:L.Pairwise fun c d=>∀k,sC c k->¬ sC d k
theorem vS.fr {P:Nat->Prop} (h:vS N w x) (f:Fr P w w') (b:∀k,sC x k->¬ P k):vS N w' x:=⟨yC h.was f fun k a=>b k (xac a),yC h.is f fun k a=>b k (xaf a),h.wfit,h.ifit,h.apart,h.wcp,h.icp⟩
theorem vS.on (h:vS N w x) (a:Below w.heap.size w w'):vS N w' x:=h.fr (P:=fun _=>False) (Fr.of_below a) fun _ _ k=>k
theorem vS.blk (h:vS N w x) (k:Nat) (a:sC x k):N<=k/\k<w.heap.size:=a.elim (yL h.was k) (yL h.is k)
theorem vS.weak {M:Nat} (h:vS N w x) (a:M<=N):vS M w x:=⟨zM h.was a,zM h.is a,h.wfit,h.ifit,h.apart,h.wcp,h.icp⟩
theorem vS.inn (h:vS N w x):CIn w x:=⟨h.was.1.is,h.wfit,h.is.1.is,h.ifit,h.wcp,h.icp⟩
theorem zBj.on (h:zBj W L p c w) (a:Below w.heap.size w w'):zBj W L p c w':=⟨h.row.on a,fun x b=>⟨(h.each x b).1.on a,(h.each x b).2⟩,h.apart⟩
theorem zBj.nil (W:World):zBj W [] none 0 W:=⟨yG.nil KCx (zaR _ _) (zaL _),(fun x a=>by cases a),xan⟩
theorem zBj.push {g m:Nat} (h:zBj W L p c w) (B:vS W.heap.size w x) (v:xO x.wo/\xO x.io) (C:∀b,sC x b->¬ (Value.slice p L.length c).ownBlock=some b/\∀y∈L,¬ sC y b)
  (hst:yG KCx W.heap.size W (.slice (some ⟨g,0,none⟩) (L.length+1) m) (L++[x]) w') (hg:w.grownBy w' (Value.slice p L.length c).ownBlock) (l:(Value.slice p L.length c).ownBlock=some g∨g=w.heap.size):zBj W (L++[x]) (some ⟨g,0,none⟩) m w':=by
 have r:(L++[x]).length=L.length+1:=by simp
 have s:Fr (fun b=>(Value.slice p L.length c).ownBlock=some b) w w':=Fr.of_grown hg fun k n=>n
 have f:∀y∈L++[x],vS W.z w y/\xO y.wo/\xO y.io/\∀b,sC y b->¬ (Value.slice p L.length c).ownBlock=some b:=fun y a=>by
  rcases List.mem_append.1 a with j|j
  ·exact h.each y j
  grind
 refine ⟨by grind,fun y a=>⟨(f y a).1.fr s (f y a).2.2.2,(f y a).2.1,(f y a).2.2.1,fun b q i=>?_⟩,?_⟩
 ·rw [r] at i
  have e:b=g:=by
   unfold Value.ownBlock at i;simp at i;omega
  subst e
  rcases l with l|l
  ·grind
  have:=((f y a).1.blk b q).2;omega
 rw [xbC];refine ⟨h.apart,xaF _ _,fun y a z A k j t=>?_⟩
 grind
structure tZ (V:World) (G:Nat) (x:Cx) (k:Nat) (fl:List Bool) (t1 t2 t3 t4:Value) (w:World):Prop where
 fr:Fr (fun b=>b=G) V w
 box:w.heap[G]? = some (.cells #[.string x.a,.string x.b,.bool x.wl,if 3<=k then t2 else .slice x.wp x.wo.length x.wc,.bool x.il,if 4<=k then t4 else .slice x.ip x.io.length x.ic] 67 (0,0))
 f1:fl[0]? = some true->t1=.slice x.wp x.wo.length x.wc
 f2:fl[1]? = some true->t3=.slice x.ip x.io.length x.ic
 d1:1<=k->fl[0]? = some true
 d2:2<=k->fl[1]? = some true
 c1:1<=k->∃o,zW V.heap.size w t2 o/\o.map Fx.fld=x.wo.map Fx.fld/\(2<=k->∃o',zW V.heap.size w t4 o'/\o'.map Fx.fld=x.io.map Fx.fld/\∀b,nF t2 o b->¬ nF t4 o' b)
section
variable {V:World} {G:Nat} {x:Cx} {k:Nat} {fl:List Bool} {t1 t2 t3 t4:Value} {w:World}
theorem zIb (e:V.heap[G]? = some (.cells #[.string x.a,.string x.b,.bool x.wl,.slice x.wp x.wo.length x.wc,.bool x.il,.slice x.ip x.io.length x.ic] 67 (0,0))) (t1 t2 t3 t4:Value):tZ V G x 0 [false,false] t1 t2 t3 t4 V:=⟨Fr.refl _ _,e,(fun h=>by cases h),(fun h=>by cases h),(fun h=>by omega),(fun h=>by omega),(fun h=>by omega)⟩
theorem zIe (h:tZ V G x 0 [false,f2] t1 t2 t3 t4 w):tZ V G x 0 [true,f2] (.slice x.wp x.wo.length x.wc) t2 t3 t4 w:=⟨h.fr,h.box,(fun _=>rfl),h.f2,(fun h=>by omega),(fun h=>by omega),(fun h=>by omega)⟩
theorem zJ3 {a:Bool} (h:tZ V G x k [a,false] t1 t2 t3 t4 w):tZ V G x k [a,true] t1 t2 (.slice x.ip x.io.length x.ic) t4 w:=⟨h.fr,h.box,h.f1,(fun _=>rfl),h.d1,(fun _=>rfl),h.c1⟩
theorem zJ1 (h:tZ V G x 0 [true,f2] t1 t2 t3 t4 w) (f:G<V.heap.size) (a:Below w.heap.size w w') (b:zW w.heap.size w' u o) (e:o.map Fx.fld=x.wo.map Fx.fld):tZ V G x 1 [true,f2] t1 u t3 t4 w':=⟨h.fr.then (Fr.of_below (P:=fun _=>False) a) fun _ h=>h.elim,(a.block G (by have:=h.fr.size;omega)).trans h.box,h.f1,h.f2,(fun _=>rfl),(fun h=>by omega),fun _=>⟨o,zM b h.fr.size,e,fun h=>by omega⟩⟩
theorem zHh (h:tZ V G x 1 [true,true] t1 t2 t3 t4 w) (n:G<V.heap.size) (a:Below w.heap.size w w') (f:zW w.heap.size w' u o) (j:o.map Fx.fld=x.io.map Fx.fld):tZ V G x 2 [true,true] t1 t2 t3 u w':=by
 obtain ⟨m,e,l,_⟩:=h.c1 (zaL _);refine ⟨h.fr.then (Fr.of_below (P:=fun _=>False) a) fun _ h=>h.elim,(a.block G (by have:=h.fr.size;omega)).trans h.box,h.f1,h.f2,(fun _=>rfl),(fun _=>rfl),fun _=>⟨m,yC e (Fr.of_below (P:=fun _=>False) a) fun _ _ k=>k,l,fun _=>⟨o,zM f h.fr.size,j,fun b g i=>?_⟩⟩⟩;have q:=(yL e b g).2;have r:=(yL f b i).1;omega
theorem zHR (g:Fr (fun b=>b=G) w w') (m:G<V.heap.size) (h:∃o,zW V.heap.size w t2 o/\o.map Fx.fld=x.wo.map Fx.fld/\(2<=k->∃o',zW V.heap.size w t4 o'/\o'.map Fx.fld=x.io.map Fx.fld/\∀b,nF t2 o b->¬ nF t4 o' b)) (i:2<=k):∃o,zW V.heap.size w' t2 o/\o.map Fx.fld=x.wo.map Fx.fld/\∃o',zW V.heap.size w' t4 o'/\o'.map Fx.fld=x.io.map Fx.fld/\∀b,nF t2 o b->¬ nF t4 o' b:=by
 obtain ⟨o,f,j,l⟩:=h;obtain ⟨o',h4,h5,h6⟩:=l i;exact ⟨o,yC f g fun b a e=>by have:=(yL f b a).1;omega,j,o',yC h4 g fun b a e=>by have:=(yL h4 b a).1;omega,h5,h6⟩
theorem xB (w:World) (G j:Nat) (u:Value):Fr (fun b=>b=G) w (w.setCell ⟨G,j,none⟩ u):=by
 have a:Below G w (w.setCell (aa G j) u):=(zaR G w).setCell (zaL _) _;exact ⟨a.os,a.tape,a.output,a.size,fun k _ e=>xaC _ _ k _ e⟩
theorem zG2 (h:tZ V G x 2 [true,true] t1 t2 t3 t4 w) (e:G<V.heap.size):tZ V G x 3 [true,true] t1 t2 t3 t4 (w.setCell ⟨G,3,none⟩ t2):=by
 obtain ⟨o,f,g,a,b⟩:=zHR (k:=2) (xB w G 3 t2) e (h.c1 (by omega)) (zaL _);exact ⟨h.fr.then (xB w G 3 t2) fun _ h=>xac h,xaa _ G _ _ _ _ h.box,h.f1,h.f2,(fun _=>rfl),(fun _=>rfl),fun _=>⟨o,f,g,fun _=>⟨a,b⟩⟩⟩
theorem zG0 (h:tZ V G x 3 [true,true] t1 t2 t3 t4 w) (e:G<V.heap.size):tZ V G x 4 [true,true] t1 t2 t3 t4 (w.setCell ⟨G,5,none⟩ t4):=by
 obtain ⟨o,f,g,a,b⟩:=zHR (k:=3) (xB w G 5 t4) e (h.c1 (by omega)) (by omega);exact ⟨h.fr.then (xB w G 5 t4) fun _ h=>xac h,xaa _ G _ _ _ _ h.box,h.f1,h.f2,(fun _=>rfl),(fun _=>rfl),fun _=>⟨o,f,g,fun _=>⟨a,b⟩⟩⟩
end
end
theorem Tryz.infoCx13:(prog.info? 67).map (fun i=>(i.zero,i.size,i.bytes))=some (some (.agg #[.string ⟨#[]⟩,.string ⟨#[]⟩,.bool false,.slice none 0 0,.bool false,.slice none 0 0]),6,96):=by kernel_rfl
def zPU:Nat->Nat
 | 0=>0
 | 1=>1
 | 2=>2
 | 3=>3
 | 4=>3
 | _+5=>4
theorem zEN {g n c k:Nat} (a:(Value.slice (some ⟨g,0,none⟩) n c).ownBlock=some k):k=g:=by grind [Value.ownBlock]
theorem zKM {P:Program} {α:Type} {w:World} {o:Oper} {a:Act} {Q:Exit->Act->World->Prop} {b:Act->World->Prop} (K:zC α) (d:o.guard=none) (s x:Operand) (t:TypeId) (e:o.op=.call { callee:=.builtin .append,args:=#[s,x],argTypes:=#[t,t] })
  (i:TypeInfo) (z:Value) (bytes:Nat) (ht:P.underlying t=some (.slice K.T)) (hi:P.info? K.T=some i) (hz:i.zero=some z) (hsize:i.size=K.k) (hby:i.bytes=bytes) (hzs:z.cells.size=K.k)
  (N:Nat) (W:World) (v:Value) (l:List α) (hs:a.eval s=v) (hst:yG K N W v l w) (y:α) (B m c:Nat) (hm:m=1) (hx:a.eval x=.slice (some ⟨B,0,none⟩) m c) (te:TypeId) (fz:Nat × Nat) (hB:w.heap[B]? = some (.cells (K.enc y).toArray te fz))
  (hlen:l.length+1<=maxLen) (hbytes:(l.length+1) * bytes<=140737488355328)
  (h:∀g cap w',yG K N W (.slice (some ⟨g,0,none⟩) (l.length+1) cap) (l++[y]) w'->w.grownBy w' v.ownBlock->(v.ownBlock=some g∨g=w.heap.size)->b (a.put o.dst (.slice (some ⟨g,0,none⟩) (l.length+1) cap)) w'):Oper.wp P o a w b Q:=by
 have:=zEE (ops:=#[]) (E:=True) (Q:=Q) K d s x t e i z bytes ht hi hz hsize hby hzs N W v l hs hst y B m c hm hx te fz hB hlen hbytes h
 grind [Region.wanted]
structure zSX {α:Type} (K:zC α) (T:TypeId) (N:Nat) (W:World) (x:α) (l:List α) (v:Value) (G f:Nat) (c:Array Value) (TG:TypeId) (w0:World) (k:Nat) (fl:List Bool) (u s p:Value) (w:World) (Z:Nat):Prop where
 row:yG K N W (if 1<=k then p else v) (if 1<=k then l++[x] else l) w
 ld:fl[0]? = some true->u=v
 bx:fl[1]? = some true->s=.slice (some ⟨Z,0,none⟩) 1 1/\(k=0->w.heap[Z]? = some (.cells (K.enc x).toArray T (0,0)))
 box:w.heap[G]? = some (.cells (if 3<=k then c.setIfInBounds f p else c) TG (0,0))
 own:1<=k->∀b,p.ownBlock=some b->v.ownBlock=some b∨w0.heap.size<=b
 fr:Fr (fun b=>b=G∨v.ownBlock=some b) w0 w
def Pb {α:Type} (K:zC α) (T:TypeId) (N:Nat) (W:World) (x:α) (l:List α) (v:Value) (G f:Nat) (c:Array Value) (TG:TypeId) (w0:World) (k:Nat) (fl:List Bool) (u s p:Value) (w:World):Prop:=∃Z,zSX K T N W x l v G f c TG w0 k fl u s p w Z
section
variable {α:Type} {K:zC α} {T:TypeId} {N:Nat} {W:World} {x:α} {l:List α} {v:Value} {G f:Nat} {c:Array Value} {TG:TypeId} {w0:World} {k:Nat} {fl:List Bool} {u s p:Value} {w:World}
theorem zO6 (u s p:Value) (h:yG K N W v l w) (a:w.heap[G]? = some (.cells c TG (0,0))):Pb K T N W x l v G f c TG w 0 [false,false] u s p w:=⟨0,h,(fun e=>by cases e),(fun e=>by cases e),a,(fun e=>by omega),Fr.refl _ _⟩
theorem zRq (h:Pb K T N W x l v G f c TG w0 k fl u s p w):Fr (fun b=>b=G∨v.ownBlock=some b) w0 w:=by
 obtain ⟨Z,h⟩:=h;exact h.fr
theorem zKW {a:Bool} (h:Pb K T N W x l v G f c TG w0 k [false,a] u s p w) (d:k<=2):w.heap[G]? = some (.cells c TG (0,0))/\Pb K T N W x l v G f c TG w0 k [true,a] v s p w:=by
 obtain ⟨Z,h⟩:=h;have b:=h.box;rw [xag (by omega)] at b;exact ⟨b,Z,h.row,(fun _=>rfl),h.bx,h.box,h.own,h.fr⟩
theorem zRH {d:Bool} (h:Pb K T N W x l v G f c TG w0 k [d,false] u s p w):Pb K T N W x l v G f c TG w0 k [d,true] u (.slice (some ⟨w.heap.size,0,none⟩) 1 1) p (w.alloc (.cells (K.enc x).toArray T)):=by
 obtain ⟨Z,h⟩:=h;have a:Bw w (w.alloc (.cells (K.enc x).toArray T)):=zaQ;exact ⟨w.z,h.row.on a,h.ld,(fun _=>⟨rfl,fun _=>xab w _⟩),(a.block G (gA h.box).1).trans h.box,h.own,h.fr.then (Fr.of_below a) fun b e=>xac e⟩
theorem zRN (h:Pb K T N W x l v G f c TG w0 0 [true,true] u s p w):∃Z,u=v/\s=.slice (some ⟨Z,0,none⟩) 1 1/\w.heap[Z]? = some (.cells (K.enc x).toArray T (0,0))/\yG K N W v l w:=by
 obtain ⟨Z,h⟩:=h;exact ⟨Z,h.ld rfl,(h.bx rfl).1,(h.bx rfl).2 rfl,h.row⟩
theorem zQW {g j:Nat} {d:World} (h:Pb K T N W x l v G f c TG w0 0 [true,true] u s p w) (n:∀b,v.ownBlock=some b->b≠G) (q:yG K N W (.slice (some ⟨g,0,none⟩) (l.length+1) j) (l++[x]) d) (i:w.grownBy d v.ownBlock) (r:v.ownBlock=some g∨g=w.heap.size):Pb K T N W x l v G f c TG w0 1 [true,true] u s (.slice (some ⟨g,0,none⟩) (l.length+1) j) d:=by
 obtain ⟨Z,h⟩:=h;have a:w.heap[G]? = some (oc c TG):=h.box;refine ⟨Z,q,h.ld,(fun _=>⟨(h.bx rfl).1,fun e=>by omega⟩),(i.block G (gA a).1 (fun e=>n G e.symm rfl)).trans a,(fun _ b a=>?_),h.fr.then (Fr.of_grown i fun k m=>m) fun b a=>xac (xaf a)⟩;rw [zEN a]
 rcases r with o|o
 ·grind
 exact xaf (by have:=h.fr.size;omega)
theorem zRk (h:Pb K T N W x l v G f c TG w0 1 fl u s p w):Pb K T N W x l v G f c TG w0 2 fl u s p w:=by
 obtain ⟨Z,h⟩:=h;exact ⟨Z,h.row,h.ld,(fun e=>⟨(h.bx e).1,fun e=>by omega⟩),h.box,(fun _=>h.own (by omega)),h.fr⟩
theorem zNg (h:Pb K T N W x l v G f c TG w0 2 fl u s p w) (o:N<=G) (i:∀b,p.ownBlock=some b->b≠G):w.heap[G]? = some (.cells c TG (0,0))/\Pb K T N W x l v G f c TG w0 3 fl u s p (w.setCell ⟨G,f,none⟩ p):=by
 obtain ⟨Z,h⟩:=h;have a:w.heap[G]? = some (oc c TG):=h.box;have d:yG K N W p (l++[x]) w:=h.row;have g:Fr (fun b=>b=G) w (w.setCell (aa G f) p):=⟨rfl,rfl,rfl,by simp,fun k _ n=>xaC _ _ k _ n⟩;have hf':=h.fr.then (g.mono (Q:=fun b=>b=G∨v.ownBlock=some b) fun b a=>xac a) fun b a=>xac a
 refine ⟨a,Z,⟨g.row (show w.ownsRow N K.T K.k p (l++[x]).length (K.cells (l++[x])) from d.own) fun b j m=>i b j m,d.bel.trans (g.below d.base fun b a=>by omega),by simpa using d.base⟩,h.ld,(fun e=>⟨(h.bx e).1,fun e=>by omega⟩),xaa _ G f _ _ _ a,(fun _=>h.own (by omega)),hf'⟩
theorem zPA (h:Pb K T N W x l v G f c TG w0 k fl u s p w) (a:1<=k):∃pp cc,p=.slice pp (l.length+1) cc:=by
 obtain ⟨Z,h⟩:=h;have b:=h.row.own;rw [xae a,xae a] at b;obtain ⟨pp,cc,e⟩:=zC.own_shape b
 simp_all
theorem zKz (h:Pb K T N W x l v G f c TG w0 k fl u s p w) (a:1<=k):∃g cc,p=.slice (some ⟨g,0,none⟩) (l.length+1) cc:=by
 obtain ⟨Z,h⟩:=h;have d:=h.row.own;rw [xae a,xae a] at d;have e:w.ownsRow N K.T K.k p (l++[x]).length (K.cells (l++[x])):=d
 rcases e.2 with ⟨_,b⟩|⟨g,i,j,b,_⟩
 ·simp at b
 simp_all
theorem zR5 (h:Pb K T N W x l v G f c TG w0 k fl u s p w) (a:1<=k) (i:∀b,v.ownBlock=some b->b≠G) (g:G<w0.heap.size):∀b,p.ownBlock=some b->b≠G:=fun b e=>by
 obtain ⟨Z,h⟩:=h
 rcases h.own a b e with d|d<;>grind
theorem zQo (h:Pb K T N W x l v G f c TG w0 3 fl u s p w):yG K N W p (l++[x]) w/\w.heap[G]? = some (.cells (c.setIfInBounds f p) TG (0,0))/\Fr (fun b=>b=G∨v.ownBlock=some b) w0 w/\∀b,p.ownBlock=some b->v.ownBlock=some b∨w0.heap.size<=b:=by
 obtain ⟨Z,h⟩:=h;exact ⟨h.row,h.box,h.fr,h.own (by omega)⟩
end
section
variable {m:Mx} {N M:Nat} {w:World} {x:Dx}
theorem SzD.same {d:Mx} {cs f:List Cx} (h:SzD m cs) (k:d.mk'=m.mk') (o:f.map Cx.ch=cs.map Cx.ch) (u:∀x∈f,xO x.wo/\xO x.io):SzD d f:=by
 have j:d.ks=m.ks:=xad Prod.fst k;have l:d.rs.map Rx.rg=m.rs.map Rx.rg:=xad Prod.snd k;have v:d.rs.length=m.rs.length:=by have:=xad List.length l;simpa using this
 have t:f.length=cs.length:=by have:=xad List.length o;simpa using this
 refine ⟨by rw [j];exact h.keys,by rw [v];exact h.rows,fun r q=>?_,by rw [t];exact h.chg,u,by rw [j];exact h.kfit,fun c p=>?_⟩
 ·have:r.rg∈m.rs.map Rx.rg:=by rw [<-l];exact xaI q
  obtain ⟨n,s,e⟩:=List.mem_map.1 this;have g:n.tm=r.tm:=xad Prod.snd e;rw [<-g];exact h.terms n s
 have:c.ch∈cs.map Cx.ch:=by rw [<-o];exact xaI p
 obtain ⟨i,y,e⟩:=List.mem_map.1 this;have g:(i.a,i.b)=(c.a,c.b):=xad Ch.key e;rw [<-g];exact h.cfit i y
theorem kG.fr {d:World} {P:Nat->Prop} (h:kG N w x) (f:Fr P w d) (i:∀k,P k->k<N):kG N d x:=⟨h.mrk.fr f i,f.row (show w.ownsRow N KCx.T KCx.k x.csl x.cs.length (KCx.cells x.cs) from h.row) fun k a e=>by
  have g:=(zaW (show w.ownsRow N KCx.T KCx.k x.csl x.cs.length (KCx.cells x.cs) from h.row) k a).1
  grind,fun c b=>(h.each c b).fr f fun k a e=>by
  have g:=((h.each c b).blk k a).1
  grind,h.apart⟩
theorem jE.weak {W:World} (h:jE N W m) (a:M<=N):jE M W m:=⟨zC.own_weak h.keys a,zC.own_weak h.rows a,fun r b=>⟨zC.own_weak (h.each r b).1 a,(h.each r b).2⟩,h.apart⟩
theorem kG.weak (h:kG N w x) (a:M<=N):kG M w x:=⟨h.mrk.weak a,zC.own_weak h.row a,fun c b=>(h.each c b).weak a,h.apart⟩
theorem kG.inn (h:kG N w x):MIn w x.m/\dX w x.csl x.cs:=⟨h.mrk.inn,zC.own_is h.row,fun c a=>(h.each c a).inn⟩
end
section
variable {N:Nat} {w:World} {x:Dx}
theorem Tryz.infoDx13:(prog.info? 131).map (fun i=>(i.zero,i.size,i.bytes))=some (some (.agg #[.int .u64 0,.int .u64 0,.bool false,.slice none 0 0,.slice none 0 0,.slice none 0 0]),6,96):=by kernel_rfl
theorem kG.frB {g:World} {P:Nat->Prop} (h:kG N w x) (f:Fr P w g) (b:∀k,gE x k->¬ P k):kG N g x:=⟨⟨f.row (show w.ownsRow N KK.T KK.k x.m.ksl x.m.ks.length (KK.cells x.m.ks) from h.mrk.keys) fun k a=>b k (xac a),
  f.row (show w.ownsRow N KRx.T KRx.k x.m.rsl x.m.rs.length (KRx.cells x.m.rs) from h.mrk.rows) fun k a=>b k (xaf (xac a)),
  fun r d=>⟨f.row (show w.ownsRow N KM.T KM.k r.sl r.tm.length (KM.cells r.tm) from (h.mrk.each r d).1) fun k a=>b k (xaf (xaf (xac ⟨r,d,a⟩))),(h.mrk.each r d).2⟩,h.mrk.apart⟩,
  f.row (show w.ownsRow N KCx.T KCx.k x.csl x.cs.length (KCx.cells x.cs) from h.row) fun k a=>b k (xaf (xaf (xaf (xac a)))),
  fun c e=>(h.each c e).fr f fun k a=>b k (xaf (xaf (xaf (xaf ⟨c,e,a⟩)))),h.apart⟩
theorem kG.blk (h:kG N w x) (k:Nat) (a:gE x k):N<=k/\k<w.heap.size:=by
 rcases a with a|a|⟨r,d,a⟩|a|⟨c,b,a⟩
 ·exact zaW (show w.ownsRow N KK.T KK.k x.m.ksl x.m.ks.length (KK.cells x.m.ks) from h.mrk.keys) k a
 ·exact zaW (show w.ownsRow N KRx.T KRx.k x.m.rsl x.m.rs.length (KRx.cells x.m.rs) from h.mrk.rows) k a
 ·exact zaW (show w.ownsRow N KM.T KM.k r.sl r.tm.length (KM.cells r.tm) from (h.mrk.each r d).1) k a
 ·exact zaW (show w.ownsRow N KCx.T KCx.k x.csl x.cs.length (KCx.cells x.cs) from h.row) k a
 exact (h.each c b).blk k a
end
section
variable {w':World} {x:Rx}
structure jL (N:Nat) (W:World) (v:Value) (L:List Rx) (w:World):Prop where
 row:yG KRx N W v L w
 each:∀r∈L,KM.Own N w r.sl r.tm/\zBh r.tm
 apart:zCQ L
theorem zSS:KM.T≠KRx.T:=by decide
section
variable {N:Nat} {W:World} {v:Value} {L:List Rx} {w:World}
theorem jL.nil (a:Below N W w) (b:N<=w.heap.size):jL N W (.slice none 0 0) [] w:=⟨yG.nil KRx a b,(fun _ h=>by cases h),xan⟩
theorem jL.on (h:jL N W v L w) (a:Below w.heap.size w w'):jL N W v L w':=⟨h.row.on a,fun r b=>⟨zC.own_on (h.each r b).1 a,(h.each r b).2⟩,h.apart⟩
theorem jL.at (h:jL N W v L w):∀r∈L,r.at w:=fun r a=>⟨zC.own_is (h.each r a).1,(h.each r a).2⟩
theorem jL.fresh (h:jL N W v L w) (a:KM.Own w.heap.size w' x.sl x.tm):∀r∈L,∀k,r.sl.ownBlock=some k->¬ x.sl.ownBlock=some k:=fun r d k b c=>by
 have e:=(zaW (show w.ownsRow N KM.T KM.k r.sl r.tm.length (KM.cells r.tm) from (h.each r d).1) k b).2;have f:=(zaW (show w'.ownsRow w.heap.size KM.T KM.k x.sl x.tm.length (KM.cells x.tm) from a) k c).1;omega
theorem jL.push {g c:Nat} (h:jL N W v L w) (d:KM.Own N w x.sl x.tm) (f:zBh x.tm) (i:∀r∈L,∀k,r.sl.ownBlock=some k->¬ x.sl.ownBlock=some k)
  (hst:yG KRx N W (.slice (some ⟨g,0,none⟩) (L.length+1) c) (L++[x]) w') (hg:w.grownBy w' v.ownBlock):jL N W (.slice (some ⟨g,0,none⟩) (L.length+1) c) (L++[x]) w':=by
 refine ⟨hst,fun r b=>?_,?_⟩
 ·have:KM.Own N w r.sl r.tm/\zBh r.tm:=by
   rcases List.mem_append.1 b with a|a
   ·exact h.each r a
   grind
  exact ⟨mA (show w.ownsRow N KM.T KM.k r.sl r.tm.length (KM.cells r.tm) from this.1) (show w.ownsRow N KRx.T KRx.k v L.length (KRx.cells L) from h.row.own) zSS hg,this.2⟩
 rw [zCQ,xbC];refine ⟨h.apart,xaF _ _,fun r b y e=>?_⟩<;>grind
end
def zC2 (W:World) (l:List Rg) (e:Ending) (w':World):Prop:=∃p c L,e=.returned (.slice p L.length c)/\jL W.heap.size W (.slice p L.length c) L w'/\L.map Rx.rg=l
theorem zAM (a b:List Ky):wM (a++b)=b.foldl (fun c x=>qJ yR x c) (wM a):=by grind [wM]
theorem zIf (a:List Ky) (k:Ky):wM (a++[k])=qJ yR k (wM a):=by
 rw [zAM];rfl
end
section
open Go.RowKit Go.Lib
section
variable {w':World}
structure sO (α:Type) where
 E:Nat->World->α->Prop
 Blk:α->Nat->Prop
 fr:∀{N:Nat} {w w':World} {x:α} {P:Nat->Prop},E N w x->Fr P w w'->(∀k,Blk x k->¬ P k)->E N w' x
 blk:∀{N:Nat} {w:World} {x:α},E N w x->∀k,Blk x k->N<=k/\k<w.heap.size
 weak:∀{N M:Nat} {w:World} {x:α},E N w x->M<=N->E M w x
theorem sO.on {α:Type} {Q:sO α} {N:Nat} {w:World} {x:α} (h:Q.E N w x) (a:Below w.heap.size w w'):Q.E N w' x:=Q.fr (P:=fun _=>False) h (Fr.of_below a) fun _ _ k=>k
structure vV {α:Type} (K:zC α) (Q:sO α) (W:World) (L:List α) (p:Option Addr) (c:Nat) (w:World):Prop where
 row:yG K W.heap.size W (.slice p L.length c) L w
 each:∀x∈L,Q.E W.heap.size w x/\∀b,Q.Blk x b->¬ (Value.slice p L.length c).ownBlock=some b
 apart:L.Pairwise fun c d=>∀k,Q.Blk c k->¬ Q.Blk d k
section
variable {α:Type} {K:zC α} {Q:sO α} {W:World} {L:List α} {p:Option Addr} {c:Nat} {w:World}
theorem vV.on (h:vV K Q W L p c w) (a:Below w.heap.size w w'):vV K Q W L p c w':=⟨h.row.on a,fun x b=>⟨sO.on (h.each x b).1 a,(h.each x b).2⟩,h.apart⟩
theorem vV.start (h:yG K W.heap.size W (.slice p 0 c) [] w):vV K Q W [] p c w:=⟨h,(fun x a=>by cases a),xan⟩
theorem vV.fresh {x:α} (h:vV K Q W L p c w) (d:Q.E w.heap.size w' x):∀b,Q.Blk x b->¬ (Value.slice p L.length c).ownBlock=some b/\∀y∈L,¬ Q.Blk y b:=fun b f=>by
 have g:=(Q.blk d b f).1;refine ⟨fun a=>?_,fun y e a=>?_⟩
 ·have:=(zaW (show w.ownsRow W.heap.size K.T K.k (sc p L.length c) L.length (K.cells L) from h.row.own) b a).2;omega
 have:=(Q.blk (h.each y e).1 b a).2;omega
theorem vV.push {g l:Nat} {x:α} (h:vV K Q W L p c w) (t:Q.E W.heap.size w x) (u:∀b,Q.Blk x b->¬ (Value.slice p L.length c).ownBlock=some b/\∀y∈L,¬ Q.Blk y b)
  (hst:yG K W.heap.size W (.slice (some ⟨g,0,none⟩) (L.length+1) l) (L++[x]) w') (hg:w.grownBy w' (Value.slice p L.length c).ownBlock) (j:(Value.slice p L.length c).ownBlock=some g∨g=w.heap.size):vV K Q W (L++[x]) (some ⟨g,0,none⟩) l w':=by
 have o:(L++[x]).length=L.length+1:=by simp
 have q:Fr (fun b=>(Value.slice p L.length c).ownBlock=some b) w w':=Fr.of_grown hg fun k m=>m
 have i:∀y∈L++[x],Q.E W.z w y/\∀b,Q.Blk y b->¬ (Value.slice p L.length c).ownBlock=some b:=fun y a=>by
  rcases List.mem_append.1 a with f|f
  ·exact h.each y f
  grind
 refine ⟨by grind,fun y a=>⟨Q.fr (i y a).1 q (i y a).2,fun b n d=>?_⟩,?_⟩
 ·rw [o] at d
  have e:b=g:=by
   unfold Value.ownBlock at d;simp at d;omega
  subst e
  rcases j with j|j
  ·grind
  have:=(Q.blk (i y a).1 b n).2;omega
 rw [xbC];refine ⟨h.apart,xaF _ _,fun y a z s k f r=>?_⟩<;>grind
end
def pX {α β:Type} (K:zC α) (Q:sO α) (key:α->β) (W:World) (l:List β) (e:Ending) (w':World):Prop:=∃p c L,e=.returned (.slice p L.length c)/\vV K Q W L p c w'/\L.map key=l
def uU {α β:Type} (K:zC α) (Q:sO α) (key:α->β) (W:World) (l:β) (e:Ending) (w':World):Prop:=∃y:α,e=.returned (.agg (K.enc y).toArray)/\Q.E W.heap.size w' y/\key y=l/\Below W.heap.size W w'
theorem zDR {P:Program} {α:Type} (K:zC α) (W:World) (t:TypeId) (i:TypeInfo) (z:Value) (d:Nat) (l:P.underlying t=some (.slice K.T)) (hi:P.info? K.T=some i) (j:i.zero=some z) (f:i.size=K.k) (m:i.bytes=d) (n:Nat)
  (hn:n<=maxLen) (hb:n * d<=140737488355328):∃a,(Instr.makeSlice t (.int .i64 0) (.int .i64 (n:Int))).run P W=.ok (.slice (some ⟨W.heap.size,0,none⟩) 0 n) a/\yG K W.heap.size W (.slice (some ⟨W.heap.size,0,none⟩) 0 n) [] a:=by
 obtain ⟨a,g,h,e⟩:=run_make_own (P:=P) W W.heap.size t K.T i z K.k l hi j f .i64 .i64 n (by grind) hn (zaL _);refine ⟨a,g,h,?_,e.size⟩;exact (Fr.of_grown (P:=fun _=>False) e fun k b=>by cases b).below (zaL _) fun k b=>b.elim
end
end
def zAh:zC Fx:=⟨82,2,sQ,fun _=>rfl,by decide,fun x u hu=>by simp [sQ,Fx.sl] at hu;rcases hu with rfl|rfl<;>rfl⟩
theorem zQO {w:World} {b a:Nat} {d:List Fx} (h:zAh.At w b a d) (i:Nat) (hi:i<d.length):w.cell? ⟨b,a+i * 2,none⟩=some (.string (d[i]).name)/\w.cell? ⟨b,a+i * 2+1,none⟩=some (d[i]).sl:=⟨h i hi 0 _ rfl,h i hi 1 _ rfl⟩
theorem zOW:(prog.info? 124).map (fun i=>(i.zero,i.size,i.bytes))=some (some (.agg #[.string ⟨#[]⟩,.slice none 0 0]),2,40):=by kernel_rfl
theorem zKr {β:Type} (Q:sO Fx) (a:Fx->β) (k:Nat) (eg:∀args w,(callFunc k args).run prog w=.ok (.enter k args) w) (v:Value) (l:List Fx) (w:World) (hv:zAh.Is w v l) (hl:l.length * 40<=140737488355328)
  (hk:∀(W:World) (x:Fx),Below w.heap.size w W->x∈l->CC k #[.agg (sQ x).toArray] W fun e f=>uU zAh Q a W (a x) e f):CC 265 #[v,.func (.func k) #[] #[]] w fun e f=>pX zAh Q a w (l.map a) e f:=by
 obtain ⟨E,A,B,D,K⟩:=xaL Tryz.infoFld;have R:l.length<=maxLen:=by unfold maxLen;omega
 obtain ⟨W0,af,ag⟩:=zDR (P:=prog) zAh w 37 E _ 40 underlying37 A B D K l.length R hl;have ad:=hid A;obtain ⟨p,cap,rfl,hd⟩:=hv;have HD:=hid hd;have HK:=hid hk;have ah:=hid ag;obtain ⟨M,hM⟩:=eE w.heap.size;rw [hM] at af;have HM:=hid hM;go_enter func265,ntmps265;go_wp2_with fail
 go_loopg [5,13] l.length (fun gg v5 U wr=>∃(i:Nat) (L:List Fx) (j:Option Addr) (g:Nat),v5=sc j L.length g/\U=ii i/\i<=l.length/\l.length-i<=gg/\L.length<=i/\Hid (vV zAh Q w L j g wr/\L.map a=(l.take i).map a))
 case atStart=>exact ⟨0,[],_,_,rfl,rfl,by omega,by omega,by simp,vV.start (by rw [<-HM.o];exact ah.o),by simp⟩
 obtain ⟨i,L,j,g,rfl,rfl,hi,al,aj,c⟩:=hrel
 by_cases hlt:i<l.length
 ·have ai:(i:Int)<(l.length:Int):=by omega
  have ak:(0:Int)<=i:=by omega
  obtain ⟨b1,o1,rfl,k1⟩:∃b off,p=some (aa b off)/\zAh.At w b off l:=by
   rcases HD.o with h|h
   ·rw [h] at hlt;simp at hlt
   exact h
  have m:Bw w wr:=c.o.1.row.bel;obtain ⟨c0,c1⟩:=zQO (zC.at_kept k1 m) i hlt
  have ae:Hid ((l.take (i+1)).map a=(l.take i).map a++[a l[i]]):=by
   show _=_
   rw [zaK hlt,xak];rfl
  have HC:Hid (∀W,Bw w W->CC k #[.agg (sQ l[i]).toArray] W fun e f=>uU zAh Q a W (a l[i]) e f):=fun W O=>HK.o W _ O (zaN hlt)
  generalize l[i]=x at *
  obtain ⟨V,n⟩:=eE (wr.alloc (.cells (sQ x).toArray 82));have r:Bw wr V:=by rw [<-n];exact zaQ
  have H:=hid (HC.o V (zA m m.size r));have q:=hid (c.o.1.on r);have Y:Hid (w.heap.size<=V.heap.size):=by show _<=_;have:=m.size;have:=r.size;omega
  have S:=hid c.o.2;obtain ⟨G,z⟩:=eE wr.heap.size;have I:V.heap[G]? = some (oc (sQ x).toArray 82):=by rw [<-n,<-z];exact xab wr _
  have F:Hid (∀y,a y=a x->(L++[y]).map a=(l.take (i+1)).map a):=fun y d=>by
   rw [ae.o,xak,S.o,<-d];rfl
  generalize a x=kx at *
  obtain ⟨xn,xp,xc,xm⟩:=x;simp only [sQ,Fx.sl] at *;have d0:=by have h:=I;exact (zaC h 0).trans rfl
  have d1:=by have h:=I;exact (zaC h 1).trans rfl
  go_upto_region 5 with fail
  try rw [z];try rw [n]
  go_wp2_with (first
   | (go_at_fn k;refine H.o.mono ?_;rintro e w1 ⟨y,rfl,d,N,J⟩;have C:=hid (q.o.on J);have Z:=hid (Q.weak d Y.o);have ab:=hid (q.o.fresh d);have X:=hid (F.o y N);clear d N J H q F;obtain ⟨yn,yp,yc,ym⟩:=y;simp only [zAh,sQ,Fx.sl] at *)
   | (at_builtin;refine xG zAh rfl _ _ 37 rfl E _ 40 underlying37 ad.o B D K rfl w.heap.size w _ L rfl (C.o.row.on (zaQ)) ⟨yn,yp,yc,ym⟩ _ _ _ rfl rfl _ _ (xab _ _) (by unfold maxLen;omega) (by omega) ?_;intro g8 c8 w8 t u s;have T:=hid ((C.o.on (zaQ)).push (sO.on Z.o (zaQ)) ab.o t u s);clear t u s))
  go_roundg (l.length-(i+1))
  case measure=>omega
  exact ⟨i+1,L++[⟨yn,yp,yc,ym⟩],some (aa g8 0),c8,by rw [xah];rfl,by go_num,by omega,by omega,by rw [xah,xaX];omega,T.o,X.o⟩
 have ai:¬ (i:Int)<(l.length:Int):=by omega
 have ac:l.take i=l:=xaj (by omega);rw [ac] at c;go_wp2_with fail;go_ret;exact ⟨j,g,L,rfl,c.o.1,c.o.2⟩
theorem zK6 {β:Type} (Q:sO Rx) (a:Rx->β) (k:Nat) (eg:∀args w,(callFunc k args).run prog w=.ok (.enter k args) w) (v:Value) (l:List Rx) (w:World) (hv:KRx.Is w v l) (hl:l.length * 40<=140737488355328)
  (hk:∀(W:World) (x:Rx),Below w.heap.size w W->x∈l->CC k #[.agg (yQ x).toArray] W fun e f=>uU KRx Q a W (a x) e f):CC 216 #[v,.func (.func k) #[] #[]] w fun e f=>pX KRx Q a w (l.map a) e f:=by
 obtain ⟨E,A,B,D,K⟩:=xaL zOW;have R:l.length<=maxLen:=by unfold maxLen;omega
 obtain ⟨W0,af,ag⟩:=zDR (P:=prog) KRx w 47 E _ 40 underlying47 A B D K l.length R hl;have ad:=hid A;obtain ⟨p,cap,rfl,hd⟩:=hv;have HD:=hid hd;have HK:=hid hk;have ah:=hid ag;obtain ⟨M,hM⟩:=eE w.heap.size;rw [hM] at af;have HM:=hid hM;go_enter func216,ntmps216;go_wp2_with fail
 go_loopg [5,13] l.length (fun gg v5 U wr=>∃(i:Nat) (L:List Rx) (j:Option Addr) (g:Nat),v5=sc j L.length g/\U=ii i/\i<=l.length/\l.length-i<=gg/\L.length<=i/\Hid (vV KRx Q w L j g wr/\L.map a=(l.take i).map a))
 case atStart=>exact ⟨0,[],_,_,rfl,rfl,by omega,by omega,by simp,vV.start (by rw [<-HM.o];exact ah.o),by simp⟩
 obtain ⟨i,L,j,g,rfl,rfl,hi,al,aj,c⟩:=hrel
 by_cases hlt:i<l.length
 ·have ai:(i:Int)<(l.length:Int):=by omega
  have ak:(0:Int)<=i:=by omega
  obtain ⟨b1,o1,rfl,k1⟩:∃b off,p=some (aa b off)/\KRx.At w b off l:=by
   rcases HD.o with h|h
   ·rw [h] at hlt;simp at hlt
   exact h
  have m:Bw w wr:=c.o.1.row.bel;obtain ⟨c0,c1⟩:=zEm (zC.at_kept k1 m) i hlt
  have ae:Hid ((l.take (i+1)).map a=(l.take i).map a++[a l[i]]):=by
   show _=_
   rw [zaK hlt,xak];rfl
  have HC:Hid (∀W,Bw w W->CC k #[.agg (yQ l[i]).toArray] W fun e f=>uU KRx Q a W (a l[i]) e f):=fun W O=>HK.o W _ O (zaN hlt)
  generalize l[i]=x at *
  obtain ⟨V,n⟩:=eE (wr.alloc (.cells (yQ x).toArray 124));have r:Bw wr V:=by rw [<-n];exact zaQ
  have H:=hid (HC.o V (zA m m.size r));have q:=hid (c.o.1.on r);have Y:Hid (w.heap.size<=V.heap.size):=by show _<=_;have:=m.size;have:=r.size;omega
  have S:=hid c.o.2;obtain ⟨G,z⟩:=eE wr.heap.size;have I:V.heap[G]? = some (oc (yQ x).toArray 124):=by rw [<-n,<-z];exact xab wr _
  have F:Hid (∀y,a y=a x->(L++[y]).map a=(l.take (i+1)).map a):=fun y d=>by
   rw [ae.o,xak,S.o,<-d];rfl
  generalize a x=kx at *
  obtain ⟨xn,xp,xc,xm⟩:=x;simp only [yQ,Rx.sl] at *;have d0:=by have h:=I;exact (zaC h 0).trans rfl
  have d1:=by have h:=I;exact (zaC h 1).trans rfl
  go_upto_region 5 with fail
  try rw [z];try rw [n]
  go_wp2_with (first
   | (go_at_fn k;refine H.o.mono ?_;rintro e w1 ⟨y,rfl,d,N,J⟩;have C:=hid (q.o.on J);have Z:=hid (Q.weak d Y.o);have ab:=hid (q.o.fresh d);have X:=hid (F.o y N);clear d N J H q F;obtain ⟨yn,yp,yc,ym⟩:=y;simp only [KRx,yQ,Rx.sl] at *)
   | (at_builtin;refine xG KRx rfl _ _ 47 rfl E _ 40 underlying47 ad.o B D K rfl w.heap.size w _ L rfl (C.o.row.on (zaQ)) ⟨yn,yp,yc,ym⟩ _ _ _ rfl rfl _ _ (xab _ _) (by unfold maxLen;omega) (by omega) ?_;intro g8 c8 w8 t u s;have T:=hid ((C.o.on (zaQ)).push (sO.on Z.o (zaQ)) ab.o t u s);clear t u s))
  go_roundg (l.length-(i+1))
  case measure=>omega
  exact ⟨i+1,L++[⟨yn,yp,yc,ym⟩],some (aa g8 0),c8,by rw [xah];rfl,by go_num,by omega,by omega,by rw [xah,xaX];omega,T.o,X.o⟩
 have ai:¬ (i:Int)<(l.length:Int):=by omega
 have ac:l.take i=l:=xaj (by omega);rw [ac] at c;go_wp2_with fail;go_ret;exact ⟨j,g,L,rfl,c.o.1,c.o.2⟩
theorem zLL {β:Type} (Q:sO Cx) (a:Cx->β) (k:Nat) (eg:∀args w,(callFunc k args).run prog w=.ok (.enter k args) w) (v:Value) (l:List Cx) (w:World) (hv:KCx.Is w v l) (hl:l.length * 96<=140737488355328)
  (hk:∀(W:World) (x:Cx),Below w.heap.size w W->x∈l->CC k #[.agg (xW x).toArray] W fun e g=>uU KCx Q a W (a x) e g):CC 218 #[v,.func (.func k) #[] #[]] w fun e g=>pX KCx Q a w (l.map a) e g:=by
 obtain ⟨F,B,C,E,K⟩:=xaL Tryz.infoCx13;have R:l.length<=maxLen:=by unfold maxLen;omega
 obtain ⟨W0,af,ag⟩:=zDR (P:=prog) KCx w 50 F _ 96 underlying50 B C E K l.length R hl;have ad:=hid B;obtain ⟨p,cap,rfl,hd⟩:=hv;have HD:=hid hd;have HK:=hid hk;have ah:=hid ag;obtain ⟨M,hM⟩:=eE w.heap.size;rw [hM] at af;have Z:=hid hM;go_enter func218,ntmps218;go_wp2_with fail
 go_loopg [5,13] l.length (fun gg v5 U wr=>∃(i:Nat) (L:List Cx) (m:Option Addr) (j:Nat),v5=sc m L.length j/\U=ii i/\i<=l.length/\l.length-i<=gg/\L.length<=i/\Hid (vV KCx Q w L m j wr/\L.map a=(l.take i).map a))
 case atStart=>exact ⟨0,[],_,_,rfl,rfl,by omega,by omega,by simp,vV.start (by rw [<-Z.o];exact ah.o),by simp⟩
 obtain ⟨i,L,m,j,rfl,rfl,hi,aw,al,c⟩:=hrel
 by_cases hlt:i<l.length
 ·have ai:(i:Int)<(l.length:Int):=by omega
  have ap:(0:Int)<=i:=by omega
  obtain ⟨b1,o1,rfl,k1⟩:∃b off,p=some (aa b off)/\KCx.At w b off l:=by
   rcases HD.o with h|h
   ·rw [h] at hlt;simp at hlt
   exact h
  have n:Bw w wr:=c.o.1.row.bel;obtain ⟨c0,c1,c2,c3,c4,c5⟩:=zJM (zC.at_kept k1 n) i hlt
  have ae:Hid ((l.take (i+1)).map a=(l.take i).map a++[a l[i]]):=by
   show _=_
   rw [zaK hlt,xak];rfl
  have HC:Hid (∀W,Bw w W->CC k #[.agg (xW l[i]).toArray] W fun e g=>uU KCx Q a W (a l[i]) e g):=fun W O=>HK.o W _ O (zaN hlt)
  generalize l[i]=x at *
  obtain ⟨V,q⟩:=eE (wr.alloc (.cells (xW x).toArray 67));have s:Bw wr V:=by rw [<-q];exact zaQ
  have I:=hid (HC.o V (zA n n.size s));have r:=hid (c.o.1.on s);have X:Hid (w.heap.size<=V.heap.size):=by show _<=_;have:=n.size;have:=s.size;omega
  have S:=hid c.o.2;obtain ⟨G,A⟩:=eE wr.heap.size;have d:V.heap[G]? = some (oc (xW x).toArray 67):=by rw [<-q,<-A];exact xab wr _
  have H:Hid (∀y,a y=a x->(L++[y]).map a=(l.take (i+1)).map a):=fun y f=>by
   rw [ae.o,xak,S.o,<-f];rfl
  generalize a x=kx at *
  obtain ⟨xa,xb,av,am,ar,ao,ak,au,an,aq⟩:=x;simp only [xW] at *;have d0:=by have h:=d;exact (zaC h 0).trans rfl
  have d1:=by have h:=d;exact (zaC h 1).trans rfl
  have d2:=by have h:=d;exact (zaC h 2).trans rfl
  have d3:=by have h:=d;exact (zaC h 3).trans rfl
  have d4:=by have h:=d;exact (zaC h 4).trans rfl
  have d5:=by have h:=d;exact (zaC h 5).trans rfl
  go_upto_region 5 with fail
  try rw [A];try rw [q]
  go_wp2_with (first
   | (go_at_fn k;refine I.o.mono ?_;rintro e w1 ⟨y,rfl,f,N,J⟩;have D:=hid (r.o.on J);have Y:=hid (Q.weak f X.o);have ab:=hid (r.o.fresh f);have aj:=hid (H.o y N);clear f N J I r H;obtain ⟨ya,yb,ywl,ywp,ywc,ywo,yil,yip,yic,yio⟩:=y;simp only [KCx,xW] at *)
   | (at_builtin;refine xG KCx rfl _ _ 50 rfl F _ 96 underlying50 ad.o C E K rfl w.heap.size w _ L rfl (D.o.row.on (zaQ)) ⟨ya,yb,ywl,ywp,ywc,ywo,yil,yip,yic,yio⟩ _ _ _ rfl rfl _ _ (xab _ _) (by unfold maxLen;omega) (by omega) ?_;intro g8 c8 w8 u z t;have T:=hid ((D.o.on (zaQ)).push (sO.on Y.o (zaQ)) ab.o u z t);clear u z t))
  go_roundg (l.length-(i+1))
  case measure=>omega
  exact ⟨i+1,L++[⟨ya,yb,ywl,ywp,ywc,ywo,yil,yip,yic,yio⟩],some (aa g8 0),c8,by rw [xah];rfl,by go_num,by omega,by omega,by rw [xah,xaX];omega,T.o,aj.o⟩
 have ai:¬ (i:Int)<(l.length:Int):=by omega
 have ac:l.take i=l:=xaj (by omega);rw [ac] at c;go_wp2_with fail;go_ret;exact ⟨m,j,L,rfl,c.o.1,c.o.2⟩
section
open Go.RowKit Go.Sort Go.Lib
theorem zRF (g:Nat) (a b c:Int) (w:World) (i:w.cell? ⟨g,0,none⟩=some (.int .i64 a)) (k:w.cell? ⟨g,1,none⟩=some (.int .i64 b)) (l:w.cell? ⟨g,2,none⟩=some (.int .i64 c)):CC 157 #[.slice (some ⟨g,0,none⟩) 3 3] w fun e d=>e=.returned (.int .i64 (qQ a (qQ b c)))/\d=w:=by
 by_cases ha:a=0
 ·subst ha;rw [jJ]
  by_cases hb:b=0
  ·subst hb;rw [jJ]
   by_cases hc:c=0
   ·subst hc;go_enter func157,ntmps157;go_wp2_with fail;refine xaD 4 ?_;rw [xav];go_wp2_with fail;rw [xav];go_wp2_with fail;rw [xav];go_wp2_with fail;rw [xav];go_wp2_with fail;go_ret;exact ⟨rfl,rfl⟩
   have f:(c != 0)=true:=by simpa using hc
   go_enter func157,ntmps157
   go_wp2_with fail
   refine xaD 3 ?_;rw [xav];go_wp2_with fail;rw [xav];go_wp2_with fail;rw [xav];go_wp2_with fail;go_ret;exact ⟨rfl,rfl⟩
  have h:(b != 0)=true:=by simpa using hb
  rw [bW hb];go_enter func157,ntmps157;go_wp2_with fail;refine xaD 2 ?_;rw [xav];go_wp2_with fail;rw [xav];go_wp2_with fail;go_ret;exact ⟨rfl,rfl⟩
 have j:(a != 0)=true:=by simpa using ha
 rw [bW ha];go_enter func157,ntmps157;go_wp2_with fail;refine xaD 1 ?_;rw [xav];go_wp2_with fail;go_ret;exact ⟨rfl,rfl⟩
theorem zHY (x y:Tm) (w:World):CC 188 #[.agg (vQ x).toArray,.agg (vQ y).toArray] w fun e a=>e=.returned (.int .i64 (zF8 x y))/\yD w a:=by
 obtain ⟨b,d,c⟩:=x;obtain ⟨b1,b2,b3⟩:=y;simp only [vQ];obtain ⟨p1,hp1⟩:∃p,Lib.compareBytes b.data.toList b1.data.toList=p:=⟨_,rfl⟩;obtain ⟨p2,hp2⟩:∃p,Lib.compareInt d b2=p:=⟨_,rfl⟩;obtain ⟨p3,hp3⟩:∃p,Lib.compareBytes c.data.toList b3.data.toList=p:=⟨_,rfl⟩;have t:Hid (zF8 (b,d,c) (b1,b2,b3)=qQ p1 (qQ p2 p3)):=by show _=_;rw [<-hp1,<-hp2,<-hp3];rfl
 have r:Hid (∀w,CC 158 #[tq b,tq b1] w fun e a=>e=.returned (ii p1)/\a=w):=fun w=>by rw [<-hp1];exact Tryz.strings_Compare _ _ _
 have q:Hid (∀w,CC 235 #[ii d,ii b2] w fun e a=>e=.returned (ii p2)/\a=w):=fun w=>by rw [<-hp2];exact Tryz.cmp_Compare_int _ _ _
 have n:Hid (∀w,CC 158 #[tq c,tq b3] w fun e a=>e=.returned (ii p3)/\a=w):=fun w=>by rw [<-hp3];exact Tryz.strings_Compare _ _ _
 clear hp1 hp2 hp3;go_enter func188,ntmps188;go_wp2_with fail;obtain ⟨W,f⟩:=eE ((w.alloc (.cells #[tq b,ii d,tq c] 239)).alloc (.cells #[tq b1,ii b2,tq b3] 239));obtain ⟨N,hN⟩:=eE w.heap.size;have l:W.heap.size=N+2:=by rw [<-f,<-hN];simp
 have g:W.heap[N]? = some (oc #[tq b,ii d,tq c] 239):=by
  rw [<-f,<-hN];exact (xaG _ _ _ (by simp)).trans (xab w _)
 have h:W.heap[N+1]? = some (oc #[tq b1,ii b2,tq b3] 239):=by
  rw [<-f,<-hN];have:=xab (w.alloc (.cells #[tq b,ii d,tq c] 239)) (.cells #[tq b1,ii b2,tq b3] 239);rwa [xba] at this
 have v:Hid (yD w W):=by rw [<-f];exact ((yD.refl _).alloc _).alloc _
 have k:Hid (∀a:World,a.heap[N]? = W.heap[N]?->a.heap[N+1]? = W.heap[N+1]?->a.cell? (aa N 0)=some (tq b)/\a.cell? (aa N 1)=some (ii d)/\a.cell? (aa N 2)=some (tq c)/\a.cell? (aa (N+1) 0)=some (tq b1)/\a.cell? (aa (N+1) 1)=some (ii b2)/\a.cell? (aa (N+1) 2)=some (tq b3)):=fun a e i=>by
  rw [zaC (e.trans g),zaC (e.trans g),zaC (e.trans g),zaC (i.trans h),zaC (i.trans h),zaC (i.trans h)];exact ⟨rfl,rfl,rfl,rfl,rfl,rfl⟩
 have u:=k.out W.drew rfl rfl;have m:=k.out (W.drew.alloc (.cells #[ii p1,ii p2,ii p3] 3)) (xaG _ _ _ (by show N<W.heap.size;omega)) (xaG _ _ _ (by show N+1<W.heap.size;omega))
 have s:Hid (CC 157 #[sc (some (aa W.heap.size 0)) 3 3] (W.drew.alloc (.cells #[ii p1,ii p2,ii p3] 3)) fun e a=>e=.returned (ii (qQ p1 (qQ p2 p3)))/\a=W.drew.alloc (.cells #[ii p1,ii p2,ii p3] 3)) :=
  zRF W.drew.heap.size p1 p2 p3 _ (by rw [zaC (xab W.drew _)];rfl) (by rw [zaC (xab W.drew _)];rfl) (by rw [zaC (xab W.drew _)];rfl)
 clear g h l;rw [hN];rw [f];clear f hN
 go_region_held3 (fun a=>a.cell? (aa N 0)=some (tq b)/\a.cell? (aa N 1)=some (ii d)/\a.cell? (aa N 2)=some (tq c)/\a.cell? (aa (N+1) 0)=some (tq b1)/\a.cell? (aa (N+1) 1)=some (ii b2)/\a.cell? (aa (N+1) 2)=some (tq b3))
  (first|exact u|exact m)
  (first
   | (go_at_call 158;refine (r.o _).mono ?_;rintro e j ⟨rfl,rfl⟩)
   | (go_at_call 158;refine (n.o _).mono ?_;rintro e j ⟨rfl,rfl⟩)
   | (go_at_call 235;refine (q.o _).mono ?_;rintro e j ⟨rfl,rfl⟩)
   | (go_at_call 157;refine s.o.mono ?_;rintro e j ⟨rfl,rfl⟩))
 go_wp2_with fail
 go_ret;exact ⟨sK t.o.symm,(v.o.drewN 1).alloc _⟩
theorem zOd (a c b:Nat) (w:World):CmpLays prog 188 #[] vQ 3 zF8 a c b w:=fun _ _ _ _ x y=>zHY x y _
theorem zCy:∀args w,(callFunc 188 args).run prog w=.ok (.enter 188 args) w:=xaR func188 (by kernel_rfl) rfl
theorem zJG (n0 g n b:Nat) (d:List Tm) (w:World) (h:KM.Own n0 w (.slice (some ⟨g,0,none⟩) n b) d) (s:d.length=n) (t:n0<=w.heap.size) (B:n<=12):CC 187 #[.slice (some ⟨g,0,none⟩) n b,.func (.func 188) #[] #[]] w fun e c =>
   e=.returned (.tuple #[])/\∃a:Array Tm,a.size=n/\a.toList.Perm d/\SortedIn (ltOf zF8) 0 a.size a/\KM.Own n0 c (.slice (some ⟨g,0,none⟩) n b) a.toList/\Below n0 w c:=by
 subst s
 have q:g<w.z/\n0<=g:=by
  rcases h.2 with ⟨l,_⟩|⟨A,y,x,l,o,p,_⟩
  ·cases l
  grind
 have j:d.toArray.size=d.length:=by simp
 have f:=AnyQ.slices_SortFunc_small_sorted Tryz.sortTrm 3 isAgg239 sizeOf239 vQ (fun _=>rfl) KM.one zF8 188 #[] zSW g 0 b d.toArray w zCy (zOd g 0 _ w) (own_holds h) q.1 (by omega)
  (fun n W s=>(Tryz.bits_Len (n:Int) W (by omega) (by omega)).mono fun e c ⟨o,p⟩=>⟨⟨_,o⟩,p⟩)
 rw [j] at f
 change CC 187 _ _ _ at f
 refine f.mono ?_;rintro e c ⟨rfl,a,m,r,k,v,rfl⟩;have i:a.size=d.length:=by have:=k.1;rwa [j] at this
 refine ⟨rfl,a,i,?_,by grind,own_sorted h a i m r,zFi (zaR _ _) t g 0 m a r q.2⟩;have:=k.2.2;have u:a.extract 0 d.length=a:=by rw [<-i];simp
 grind
end
section
open Go.RowKit Go.Sort Go.Lib
section
variable {n0 g n cap:Nat} {w:World} {d:List Tm}
theorem zNG (a b:Tm) (w:World):(binOp .eql 239 (.agg #[.string a.1,.int .i64 a.2.1,.string a.2.2]) (.agg #[.string b.1,.int .i64 b.2.1,.string b.2.2])).run prog w=.ok (.bool (decide (a=b))) w:=by
 obtain ⟨h,f,e⟩:=a;obtain ⟨b1,b2,b3⟩:=b;have i:prog.underlying 239=some (.struct (prog.fieldsOf 239)):=by kernel_rfl
 have c:prog.stoodInHeld 239=false:=by kernel_rfl
 have m:=underlying9;have l:=isAgg9;have j:=sizeOf9;have o:=underlying3;have a3':=isAgg3;have k:=sizeOf3;rw [run_eql_struct,show (10000:Nat)=9999+1 from rfl,run_equalIn_agg w 9999 239 _ _ i c];simp only [Program.fieldsOf,underlying239]
 go_simp
 by_cases h1:h=b1
 ·subst h1
  by_cases h2:f=b2
  ·subst h2
   by_cases h3:e=b3
   ·grind
   grind [tN]
  simp [h2]
 grind [tN]
theorem zIR (w:World) (p:TypeId) (g o n c:Nat) (r:0<n) (t:∀j,j<n * 3->(w.cell? ⟨g,o+j,none⟩).isSome=true) (s:∀j,j<n * 3->w.frozen? ⟨g,o+j,none⟩=false):∃a:List Value,(Builtin.clear_ #[38] p #[.slice (some ⟨g,o,none⟩) n c]).run prog w=.ok (.tuple #[]) (w.setCells g o a):=by
 have k:∀w,(zeroValue 239).run prog w=.ok (.agg #[tq ⟨#[]⟩,ii 0,tq ⟨#[]⟩]) w:=zeroValue239;obtain ⟨a,e⟩:=eE ((Builtin.zeroCells (Value.agg #[tq ⟨#[]⟩,ii 0,tq ⟨#[]⟩]).cells n).toList);have q:a.length=n * 3:=by rw [<-e,xaB,size_zeroCells];rfl
 have h:∀v∈a,v.oneCell'=true:=by
  intro v b;rw [<-e] at b;simp only [Builtin.zeroCells,Array.toList_map,List.mem_map] at b;obtain ⟨i,_,rfl⟩:=b;have l:i % (Value.agg #[tq ⟨#[]⟩,ii 0,tq ⟨#[]⟩]).cells.size<3:=Nat.mod_lt _ (by decide);obtain ⟨m,b⟩:=eE (i % (Value.agg #[tq ⟨#[]⟩,ii 0,tq ⟨#[]⟩]).cells.size);rw [b] at l ⊢
  rcases (show m=0∨m=1∨m=2 by omega) with rfl|rfl|rfl<;>rfl
 refine ⟨a,?_⟩;have f:=xb1 (P:=prog) g o a 0 w (by grind) (by grind) h;simp only [Nat.add_zero] at f;obtain ⟨m,rfl⟩:∃m,n=m+1:=⟨n-1,by omega⟩;simp [Builtin.clear_,run_underlying underlying38,k,e,f]
theorem mD {d:Array Tm} (h:KM.Own n0 w (.slice (some ⟨g,0,none⟩) n cap) d.toList) (i:Nat) (hi:i<d.size):w.cell? ⟨g,i * 3,none⟩=some (.string (d[i]!).1)/\w.cell? ⟨g,i * 3+1,none⟩=some (.int .i64 (d[i]!).2.1)/\w.cell? ⟨g,i * 3+2,none⟩=some (.string (d[i]!).2.2) /\
  w.frozen? ⟨g,i * 3,none⟩=false/\w.frozen? ⟨g,i * 3+1,none⟩=false/\w.frozen? ⟨g,i * 3+2,none⟩=false:=by
 have f:=own_holds h;have hi':i<d.toList.toArray.size:=by simpa using hi
 have b:=f.cell (i:=i) (c:=0) hi' (by decide);have e:=f.cell (i:=i) (c:=1) hi' (by decide);have a:=f.cell (i:=i) (c:=2) hi' (by decide);have j:d.toList.toArray[i]! = d[i]!:=by simp
 rw [j] at b e a;simp only [xaJ,Nat.add_zero] at b e a;exact ⟨b.1,e.1,a.1,b.2,e.2,a.2⟩
theorem zFu {d:Array Tm} (h:KM.Own n0 w (.slice (some ⟨g,0,none⟩) n cap) d.toList) (t:Nat) (a:t<d.size * 3):(w.cell? ⟨g,t,none⟩).isSome=true/\w.frozen? ⟨g,t,none⟩=false:=by
 have:=own_holds h t (by grind [size_flatK])
 grind
theorem own_ge (h:KM.Own n0 w (.slice (some ⟨g,0,none⟩) n cap) d):n0<=g/\g<w.heap.size/\d.length<=cap/\cap<=maxLen:=by
 rcases h.2 with ⟨a,_⟩|⟨c,k,j,a,b,f,i,e,_⟩
 ·cases a
 grind
theorem zAW {v:Value} (h:KM.Own n0 w v d) (q:Nat):KM.Own n0 (w.drewN q) v d:=h
theorem zF7 {d:Array Tm} (h:∀j,j<d.size->keeps d j=true):compactUpTo d d.size=d.toList:=by
 rw [compactUpTo_all d _ h,range_map_get]
theorem zNd {d dk:Array Tm} {m k:Nat} (h:CompInv d m k dk) (a:k<=dk.size):dk.toList.take k=compactUpTo d m:=by
 apply xaU
 intro j;rw [xa8]
 by_cases hj:j<k
 ·rw [xae hj,h.low j hj,xbw,xb8 (by omega),xbn dk j (by omega)]
 rw [xag hj,xaz (by rw [h.len];omega)]
def pS (n0 g cap:Nat) (d:Array Tm) (w:World) (e:Ending) (w':World):Prop:=e=.returned (.slice (some ⟨g,0,none⟩) (compactUpTo d d.size).length cap)/\KM.Own n0 w' (.slice (some ⟨g,0,none⟩) (compactUpTo d d.size).length cap) (compactUpTo d d.size)/\Below n0 w w'
theorem pS.same {d:Array Tm} (h:KM.Own n0 w (.slice (some ⟨g,0,none⟩) n cap) d.toList) (b:d.size=n) (a:∀j,j<d.size->keeps d j=true) (q:Nat):pS n0 g cap d w (.returned (.slice (some ⟨g,0,none⟩) n cap)) (w.drewN q):=by grind [pS,zF7,zG,Below.refl,zAW]
theorem zGB (n0 g n cap:Nat) (d:Array Tm) (w:World) (h:KM.Own n0 w (.slice (some ⟨g,0,none⟩) n cap) d.toList) (O:d.size=n) (ai:n0<=w.heap.size) (ak:n<=1000):CC 189 #[.slice (some ⟨g,0,none⟩) n cap] w fun e w'=>pS n0 g cap d w e w':=by
 obtain ⟨z,az,ah,X⟩:=own_ge h;have hcap':n<=cap:=by rw [<-O];simpa using ah
 unfold maxLen at X;have s:=hid h;have c:=hid O
 by_cases h2:n<2
 ·have ab:(n:Int)<2:=by omega
  have F:=hid (pS.same s.o c.o (fun j hj=>keeps_lt_one d j (by rw [c.o] at hj;omega)) 0);go_enter func189,ntmps189;go_wp2_with fail;go_ret;exact F.o
 have ab:¬ (n:Int)<2:=by omega
 go_enter func189,ntmps189
 go_wp2_with fail
 go_loopg [3] n (fun g D wr=>∃k q:Nat,1<=k/\k<=n/\n-k<=g/\D=ii k/\wr=w.drewN q/\Hid (∀j,j<k->keeps d j=true))
 case atStart=>exact ⟨1,0,zaL _,by omega,by omega,rfl,rfl,keeps_lt_one d⟩
 obtain ⟨k,q,au,hk,hg,rfl,rfl,A⟩:=hrel
 by_cases hlt:k<n
 ·have aj:(k:Int)<(n:Int):=by omega
  have am:(0:Int)<=k:=by omega
  have ba:(0:Int)<=(k:Int)-1:=by omega
  have ar:(k:Int)-1<(n:Int):=by omega
  have ax:((k:Int)-1).toNat=k-1:=by omega
  obtain ⟨Z,Y,R,_,_,_⟩:=mD s.o k (by rw [c.o];exact hlt);obtain ⟨y0,y1,y2,_,_,_⟩:=mD s.o (k-1) (by rw [c.o];omega);obtain ⟨x,hx⟩:=eE (d[k]!);obtain ⟨y,hy⟩:=eE (d[k-1]!);rw [hx] at Z Y R;rw [hy] at y0 y1 y2;have B:Hid (d[k]! = x/\d[k-1]! = y):=⟨hx,hy⟩;have J:=fun W=>zNG x y W
  by_cases hdup:x=y
  ·have l:=xas hdup;rw [l] at J;have G:=hid hdup;go_wp2_with fail
   go_quiet (fail)
   go_wp2_with fail
   have af:Hid (CompInv d (k+1) k d):=CompInv.start A.out (keeps_neg (by omega) (by rw [B.out.1,B.out.2];exact G.o))
   go_loopg [3,5] n (fun Q D s5 wr=>∃(b a:Nat) (f:Array Tm),D=ii b/\s5=ii a/\1<=a/\k+a<=n/\n-(k+a)<=Q/\b<k+a/\Hid (CompInv d (k+a) b f)/\Hid (KM.Own n0 wr (sc (some (aa g 0)) n cap) f.toList)/\Hid (Below n0 w wr))
   case atStart=>exact ⟨k,1,d,rfl,rfl,zaL _,by omega,by omega,by omega,af,zAW s.o _,zG (zaR _ _) _⟩
   obtain ⟨b,a,f,rfl,rfl,h1,ao,an,al,m,i,t⟩:=hrel;have aq:f.size=n:=by rw [m.out.size];exact c.o
   have hkz':(0:Int)<=b:=by omega
   have hkn':(b:Int)<(n:Int):=by omega
   have aw:(0:Int)<=a:=by omega
   have bb:(0:Int)<=(a:Int)-1:=by omega
   have ap:((a:Int)-1).toNat=a-1:=by omega
   by_cases hlt2:k+a<n
   ·have U:(a:Int)<((n-k:Nat):Int):=by omega
    have av:(a:Int)-1<((n-k:Nat):Int):=by omega
    obtain ⟨K,P,L,_,_,_⟩:=mD i.o (k+a) (by omega);obtain ⟨v0,v1,v2,_,_,_⟩:=mD i.o (k+a-1) (by omega);obtain ⟨o0,o1,o2,f0,f1,f2⟩:=mD i.o b (by omega);rw [m.out.high (k+a) (by omega),show (k+a) * 3=k * 3+a * 3 by omega] at K P L;rw [m.out.high (k+a-1) (by omega),show (k+a-1) * 3=k * 3+(a-1) * 3 by omega] at v0 v1 v2;obtain ⟨u,hu⟩:=eE (d[k+a]!);obtain ⟨v,hv⟩:=eE (d[k+a-1]!);obtain ⟨old,hol⟩:=eE (f[b]!);rw [hu] at K P L;rw [hv] at v0 v1 v2;rw [hol] at o0 o1 o2;have C:Hid (d[k+a]! = u/\d[k+a-1]! = v):=⟨hu,hv⟩;have M:=fun W=>zHO u v W
    by_cases huv:u=v
    ·have l:=xas huv;rw [l] at M;have H:=hid huv;go_wp2_with fail
     go_quiet (fail)
     go_wp2_with fail
     go_roundg (n-(k+(a+1)))
     case measure=>omega
     exact ⟨b,a+1,f,rfl,by go_num,by omega,by omega,zaL _,by omega,m.out.skip (keeps_neg (by omega) (by rw [C.out.1,C.out.2];exact H.o)),zAW i.o _,zG t.o _⟩
    have l:=xar huv;rw [l] at M;have H:=hid huv
    have T:Hid (∀I,KM.Own n0 ((((wr.drewN I).setCell (aa g (b * 3)) (tq u.1)).setCell (aa g (b * 3+1)) (ii u.2.1)).setCell (aa g (b * 3+2)) (tq u.2.2)) (sc (some (aa g 0)) n cap) (f.setIfInBounds b u).toList):=fun I=>by
     rw [Array.toList_setIfInBounds];exact zQN (zAW i.o I) (by omega) b (by rw [xaB];omega) u
    go_wp2_with fail
    go_quiet (fail)
    go_wp2_with fail
    go_roundg (n-(k+(a+1)))
    case measure=>omega
    refine ⟨b+1,a+1,f.setIfInBounds b u,by go_num,by go_num,by omega,by omega,zaL _,by omega,?_,T.o _,(((zG t.o _).setCell (p:=(aa g (b * 3))) z _).setCell (p:=(aa g (b * 3+1))) z _).setCell (p:=(aa g (b * 3+2))) z _⟩;have:=m.out.keep (by rw [c.o];exact hlt2) (keeps_pos (by rw [C.out.1,C.out.2];exact H.o));rw [C.out.1] at this;exact this
   have ag:k+a=n:=by omega
   have U:¬ (a:Int)<((n-k:Nat):Int):=by omega
   have ac:0<n-b:=by omega
   obtain ⟨r,ay⟩:∃r:List Value,∀N,(Builtin.clear_ #[38] N #[sc (some (aa g (b * 3))) (n-b) (cap-b)]).run prog wr=.ok (.tuple #[]) (wr.setCells g (b * 3) r):=by
    obtain ⟨r,hz⟩:=zIR wr 0 g (b * 3) (n-b) (cap-b) ac (fun j hj=>(zFu i.o (b * 3+j) (by omega)).1) (fun j hj=>(zFu i.o (b * 3+j) (by omega)).2);exact ⟨r,fun N=>hz⟩
   have V:=hid ag;go_wp2_with fail;go_ret;have E:=m.out;rw [V.o,<-c.o] at E;have S:=zNd E (by omega);have ae:=E.len;unfold pS;rw [ae,<-S];refine ⟨rfl,own_past r wr (b * 3) (own_cut i.o b (by rw [xaB];omega)) (by rw [xa2,xaB];omega) (zaL _),?_⟩;exact t.o.grown (zIH r wr wr (b * 3) (by have:=xS wr g 0 (ii 0);exact ⟨rfl,rfl,rfl,zaL _,fun _ _ _=>rfl⟩)) (zaU ai t.o.size) (fun k e=>by cases e;exact z)
  have l:=xar hdup;rw [l] at J;have G:=hid hdup;go_wp2_with fail
  go_quiet (fail)
  go_wp2_with fail
  go_roundg (n-(k+1))
  case measure=>omega
  refine ⟨k+1,_,by omega,by omega,zaL _,by go_num,rfl,fun j hj=>?_⟩
  by_cases e:j=k
  ·subst e;exact keeps_pos (by rw [B.out.1,B.out.2];exact G.o)
  exact A.out j (by omega)
 have ad:k=n:=by omega
 subst ad;have F:=hid (pS.same s.o c.o (fun j hj=>A.out j (by rw [c.o] at hj;exact hj)) q);have aj:¬ (k:Int)<(k:Int):=by omega
 go_wp2_with fail
 go_ret;exact F.o
end
end
section
open Go.RowKit Go.Sort Go.Lib
section
variable {w:World} {b off:Nat} {p:List Tm}
theorem zNi (x:Tm) (w:World) (hs:x.1.size<=maxLen):CC 183 #[.agg (vQ x).toArray] w fun e c=>e=.returned (.bool (!bN x))/\yD w c:=by
 obtain ⟨a,o,t⟩:=x;simp only [vQ,bN] at hs ⊢;go_enter func183,ntmps183;go_wp2_with (go_at_call 233;refine (zEV _ _ hs).mono ?_;rintro e c ⟨rfl,rfl⟩);go_ret;exact ⟨rfl,(yD.refl _).alloc _⟩
theorem zK1 (x:Tm) (w:World):CC 185 #[.agg (vQ x).toArray] w fun e c=>e=.returned (.bool (!kE x))/\yD w c:=by
 obtain ⟨a,o,t⟩:=x;simp only [vQ,kE]
 have d:Hid (decide ((128:Int)<t.size) = !decide (t.size<=128)):=by
  show _=_
  rw [xaO];simp;omega
 go_enter func185,ntmps185
 go_wp2_with fail
 go_ret;exact ⟨zH d.o,(yD.refl _).alloc _⟩
theorem zMb (x:Tm) (w:World):CC 184 #[.agg (vQ x).toArray] w fun e h=>e=.returned (.bool (!sZ x))/\yD w h:=by
 obtain ⟨a,o,t⟩:=x;simp only [vQ]
 by_cases h6:o=6∨o=7
 ·have c:Hid ((!t.toList.isEmpty) = !sZ (a,o,t)):=by
   show _=_
   unfold sZ;have d:decide (1<=o)=true:=xas (by omega);have f:decide (o<=7)=true:=xas (by omega);have g:decide (o<6)=false:=xar (by omega);simp only [d,f,g,Bool.true_and,Bool.false_or]
   congr 1
   by_cases hz:t.size=0
   ·rw [zLC hz,xas hz]
   rw [zOY hz,xar hz]
  rcases h6 with rfl|rfl
  ·go_enter func184,ntmps184
   go_wp2_with fail
   go_ret;exact ⟨zH c.o,(yD.refl _).alloc _⟩
  go_enter func184,ntmps184
  go_wp2_with fail
  go_ret;exact ⟨zH c.o,(yD.refl _).alloc _⟩
 by_cases h5:o=1∨o=2∨o=3∨o=4∨o=5
 ·have c:Hid (false = !sZ (a,o,t)):=by
   show _=_
   unfold sZ;have d:decide (1<=o)=true:=xas (by omega);have f:decide (o<=7)=true:=xas (by omega);have g:decide (o<6)=true:=xas (by omega);simp only [d,f,g,Bool.true_and,Bool.true_or,Bool.not_true]
  rcases h5 with rfl|rfl|rfl|rfl|rfl <;>
  ·go_enter func184,ntmps184
   go_wp2_with fail
   go_ret;exact ⟨zH c.o,(yD.refl _).alloc _⟩
 have c:Hid (true = !sZ (a,o,t)):=by
  show _=_
  unfold sZ
  by_cases d:1<=o
  ·grind
  simp [d]
 have q:(o==1)=false:=by simp;omega
 have j:(o==2)=false:=by simp;omega
 have n:(o==3)=false:=by simp;omega
 have l:(o==4)=false:=by simp;omega
 have i:(o==5)=false:=by simp;omega
 have k:(o==6)=false:=by simp;omega
 have m:(o==7)=false:=by simp;omega
 go_enter func184,ntmps184
 go_wp2_with fail
 go_ret;exact ⟨zH c.o,(yD.refl _).alloc _⟩
def Tf:Type:={ x:Tm // x.1.size<=maxLen/\x.2.2.size<=maxLen/\-9223372036854775808<=x.2.1/\x.2.1<=9223372036854775807 }
def zQe:Tf:=⟨(⟨#[]⟩,0,⟨#[]⟩),xaE _,xaE _,by decide,by decide⟩
theorem zKn (p:Option Addr) (c:Nat) (d:Value) (w:World):CC 182 #[.slice p 0 c,d] w fun e a=>e=.returned (.bool false)/\a=w:=by
 have g:CC 232 #[sc p 0 c,d] w fun e a=>e=.returned (ii (-1))/\a=w:=by
  go_enter func232,ntmps232
  go_wp2_with fail
  refine xaD 1 ?_;rw [xav];go_wp2_with fail;go_ret;exact ⟨rfl,rfl⟩
 have f:=hid g;go_enter func182,ntmps182;go_wp2_with (first|(go_at_call 232;refine f.o.mono ?_;rintro e h ⟨rfl,rfl⟩));go_ret;exact ⟨rfl,rfl⟩
theorem zI8 (h:KM.At w b off p) (j:Nat) (hj:j<p.length) (i:Nat) (v:Value) (a:(vQ p[j])[i]? = some v):w.cell? ⟨b,off+j * 3+i,none⟩=some v:=h j hj i v a
theorem zCg (f:Tm->Bool) (k:Nat) (lb:Array Value) (n:∀args w,(callFunc k args).run prog w=.ok (.enter k args) w) (v:Value) (p:List Tm) (w:World) (r:KM.Is w v p) (d:qZ p)
  (hk:∀(W:World) (x:Tm),Below w.heap.size w W->x.1.size<=maxLen->x.2.2.size<=maxLen->(-9223372036854775808<=x.2.1/\x.2.1<=9223372036854775807)->CC k (#[.agg (vQ x).toArray]++lb) W fun e c=>e=.returned (.bool (f x))/\Below w.heap.size w c):CC 182 #[v,.func (.func k) #[] lb] w fun e c=>e=.returned (.bool (p.any f))/\Below w.heap.size w c:=by
 obtain ⟨q,g,rfl,h⟩:=r
 by_cases h0:p=[]
 ·subst h0;refine (zKn q g _ w).mono ?_
  grind [Below.refl]
 rcases h with h|⟨b,off,rfl,l⟩
 ·grind
 have s:0<p.length:=List.length_pos_iff.2 h0;have t:=d.1;unfold maxLen at t;have y:∀x∈p,x.1.size<=maxLen/\x.2.2.size<=maxLen/\-9223372036854775808<=x.2.1/\x.2.1<=9223372036854775807:=d.2;obtain ⟨a,o⟩:∃a:List Tf,a.map (·.1)=p:=⟨p.attachWith _ y,List.attachWith_map_subtype_val ..⟩;have A:a.length=p.length:=by rw [<-o,zaM]
 letI:Inhabited Tf:=⟨zQe⟩
 have m:=AnyQ.slices_ContainsFunc (α:=Tf) Tryz.hasTrm 3 isAgg239 sizeOf239 (fun x=>vQ x.1) (fun _=>rfl) (fun x=>f x.1) k lb n b off p.length g a w
  (fun W x z=>hk W x.1 z x.2.1 x.2.2.1 x.2.2.2) (by omega) (by omega) (zI (l 0 s 0 _ rfl))
  (fun j hj i u B=>by grind [zI8])
 change CC 182 _ _ _ at m
 grind
theorem zGV:∀args w,(callFunc 183 args).run prog w=.ok (.enter 183 args) w:=xaR func183 (by kernel_rfl) rfl
theorem zHd:∀args w,(callFunc 184 args).run prog w=.ok (.enter 184 args) w:=xaR func184 (by kernel_rfl) rfl
theorem zEq:∀args w,(callFunc 185 args).run prog w=.ok (.enter 185 args) w:=xaR func185 (by kernel_rfl) rfl
theorem zQt (v:Value) (p:List Tm) (w:World) (g:KM.Is w v p) (d:qZ p):CC 182 #[v,.func (.func 183) #[] #[]] w fun e c=>e=.returned (.bool (!p.all bN))/\Below w.heap.size w c:=by
 have:=zCg (fun x=>!bN x) 183 #[] zGV v p w g d (fun W x a f _ _=>(zNi x W f).mono fun _ _ ⟨h2,h3⟩=>⟨h2,a.trans (h3.below.mono a.size)⟩)
 grind
theorem zRZ (v:Value) (p:List Tm) (w:World) (f:KM.Is w v p) (d:qZ p):CC 182 #[v,.func (.func 184) #[] #[]] w fun e c=>e=.returned (.bool (!p.all sZ))/\Below w.heap.size w c:=by
 have:=zCg (fun x=>!sZ x) 184 #[] zHd v p w f d (fun W x a _ _ _=>(zMb x W).mono fun _ _ ⟨h2,h3⟩=>⟨h2,a.trans (h3.below.mono a.size)⟩)
 grind
theorem zRW (v:Value) (p:List Tm) (w:World) (f:KM.Is w v p) (d:qZ p):CC 182 #[v,.func (.func 185) #[] #[]] w fun e c=>e=.returned (.bool (!p.all kE))/\Below w.heap.size w c:=by
 have:=zCg (fun x=>!kE x) 185 #[] zEq v p w f d (fun W x a _ _ _=>(zK1 x W).mono fun _ _ ⟨h2,h3⟩=>⟨h2,a.trans (h3.below.mono a.size)⟩)
 grind
theorem zGn (v:Value) (p:List Tm) (w:World) (t:KM.Is w v p) (x:qZ p):CC 131 #[v] w fun e n=>e=.returned (.int .i64 (nJ p))/\Below w.heap.size w n:=by
 obtain ⟨q,l,C⟩:∃q l,v=sc q p.length l:=by obtain ⟨q,l,h,_⟩:=t;grind
 subst C;have z:=hid t;have y:=hid x;have j:=hid (zQt _ p w t x);obtain ⟨m,B⟩:=eE (nJ p);rw [B];have d:=hid B;unfold nJ at d
 by_cases h8:8<p.length
 ·have D:(8:Int)<(p.length:Int):=by omega
  have f:Hid (5=m):=by have:=d.o;rw [xae h8] at this;exact this
  go_enter func131,ntmps131
  go_wp2_with fail
  go_ret;exact ⟨sK f.o,zaR _ _⟩
 have D:¬ (8:Int)<(p.length:Int):=by omega
 rw [xag h8] at d
 cases a1:p.all bN with
 | false =>
  rw [a1] at j;have f:Hid (2=m):=by have:=d.o;rw [xae a1] at this;exact this
  go_enter func131,ntmps131
  go_wp2_with (go_at_call 182;refine j.o.mono ?_;rintro e c ⟨rfl,a⟩)
  go_ret;exact ⟨sK f.o,a⟩
 | true =>
 rw [a1] at j;rw [xag (by rw [a1];simp)] at d;have r:Hid (∀W,Bw w W->CC 182 #[sc q p.length l,.func (.func 184) #[] #[]] W fun e n=>e=.returned (.bool (!p.all sZ))/\Bw W n):=fun W u=>zRZ _ p W (zC.is_kept z.o u) y.o
 have s:Hid (∀W,Bw w W->CC 182 #[sc q p.length l,.func (.func 185) #[] #[]] W fun e n=>e=.returned (.bool (!p.all kE))/\Bw W n):=fun W u=>zRW _ p W (zC.is_kept z.o u) y.o
 cases a2:p.all sZ with
 | false =>
  rw [a2] at r;have f:Hid (1=m):=by have:=d.o;rw [xae a2] at this;exact this
  go_enter func131,ntmps131
  go_wp2_with (first|(go_at_call 182;refine j.o.mono ?_;rintro e c ⟨rfl,a⟩)|(go_at_call 182;refine (r.o c a).mono ?_;rintro e g ⟨rfl,hb2⟩))
  go_ret;exact ⟨sK f.o,zA a a.size hb2⟩
 | true =>
 rw [a2] at r;rw [xag (by rw [a2];simp)] at d;have A:Hid (∀c g,Bw w c->Bw c g->Bw w g):=fun c g h k=>zA h h.size k
 cases a3:p.all kE with
 | false =>
  rw [a3] at s;have f:Hid (5=m):=by have:=d.o;rw [xae a3] at this;exact this
  go_enter func131,ntmps131
  go_wp2_with (first|(go_at_call 182;refine j.o.mono ?_;rintro e c ⟨rfl,a⟩)|(go_at_call 182;refine (r.o c a).mono ?_;rintro e g ⟨rfl,hb2⟩;have i:=A.out _ _ a hb2)|(go_at_call 182;refine (s.o g i).mono ?_;rintro e w3 ⟨rfl,hb3⟩))
  go_ret;exact ⟨sK f.o,zA i i.size hb3⟩
 | true =>
 rw [a3] at s;have f:Hid (0=m):=by have:=d.o;rw [xag (by rw [a3];simp)] at this;exact this
 go_enter func131,ntmps131
 go_wp2_with (first|(go_at_call 182;refine j.o.mono ?_;rintro e c ⟨rfl,a⟩)|(go_at_call 182;refine (r.o c a).mono ?_;rintro e g ⟨rfl,hb2⟩;have i:=A.out _ _ a hb2)|(go_at_call 182;refine (s.o g i).mono ?_;rintro e w3 ⟨rfl,hb3⟩))
 go_ret;exact ⟨sK f.o,zA i i.size hb3⟩
theorem zQh (h:KM.At w b off p) (j:Nat) (u:Value) (a:(KM.cells p)[j]? = some u):w.cell? ⟨b,off+j,none⟩=some u:=by
 rcases zC.src (K:=KM) (w:=w) (p:=some (aa b off)) (d:=p) (xaf ⟨b,off,rfl,h⟩) with g|⟨c,e,f⟩
 ·grind [zC.cells]
 grind [addr_add]
theorem cR (v:Value) (p:List Tm) (w:World) (y:KM.Is w v p) (hs:p.length * 40<=140737488355328):CC 186 #[v] w fun e i=>∃u,e=.returned u/\KM.Own w.heap.size i u p/\Below w.heap.size w i:=by
 obtain ⟨B,hi,s,x,t⟩:=xaL Tryz.infoTrm;obtain ⟨q,cap,rfl,hd⟩:=y;have H:∀(w:World) (a:Option Addr) (n c d g:Nat),(binOp .eql 38 (sc a n c) (sc none d g)).run prog w=.ok (.bool a.isNone) w:=fun w a n c d g=>xbv w _ _ a n c d g underlying38
 have l:=hid hd
 cases q with
 | none =>
  have E:p=[]:=by
   rcases l.o with h|⟨b,off,h,_⟩
   ·exact h
   cases h
  subst E;go_enter func186,ntmps186;go_wp2_with fail;go_ret;exact ⟨_,rfl,KM.own_nil _ _,zaR _ _⟩
 | some a =>
 have C:∀j u,(KM.cells p)[j]? = some u->(w.alloc (.cells #[] 239)).cell? (a.add j)=some u:=by
  rcases l.o with h|⟨b,off,h,F⟩
  ·grind [zC.cells]
  grind [addr_add,zQh,World.cell?_alloc_lt,zI]
 have A:=hid C;go_enter func186,ntmps186;go_wp2_with (at_builtin;refine xbj _ rfl _ _ 38 rfl w.z 239 B (.agg #[tq ⟨#[]⟩,ii 0,tq ⟨#[]⟩]) 3 40 underlying38 hi s x t rfl (by decide) _ _ _ rfl (xbO w #[] 0 (zaL _) (xaE _) (by simp)) a p.length cap (KM.cells p) rfl ?c0 ?c1 ?c2 ?c3 ?c4 ?c5 ?_)
 case c0=>exact KM.cells_len p
 case c1=>exact A.o
 case c2=>exact KM.cells_ones p
 case c3=>unfold maxLen;omega
 case c4=>omega
 case c5=>simp
 intro k f I m G;have D:Bw w f:=((zaR _ w).alloc (zaL _) _).grown m (by simp) (by grind [Value.ownBlock]);have r:Hid (KM.Own w.z f k p):=hid (by show f.ownsRow w.z 239 3 k p.length (KM.cells p);omega);go_wp2_with fail;go_ret;exact ⟨_,rfl,r.o,D⟩
theorem zIc (fv:Value) (w:World):CC 187 #[.slice none 0 0,fv] w fun e w'=>e=.returned (.tuple #[])/\w'=w:=by
 have hi:∀W,CC 270 #[sc none 0 0,ii 0,ii 0,fv] W fun e w'=>e=.returned (.tuple #[])/\w'=W:=fun W=>by
  go_enter func270,ntmps270
  go_wp2_with fail
  refine xaD 1 ?_;rw [xav];go_wp2_with fail
  go_end0
  grind
 have HI:=hid hi
 have hp:∀(l:Int) W,CC 234 #[sc none 0 0,ii 0,ii 0,ii l,fv] W fun e w'=>e=.returned (.tuple #[])/\w'=W:=fun l W=>by
  go_enter func234,ntmps234
  go_wp2_with fail
  refine xaD 1 ?_;rw [xav];go_wp2_with (first|(go_at_call 270;refine (HI.o _).mono ?_;rintro e w1 ⟨rfl,rfl⟩));refine zaB (xbV (h:=results234) _ _ _) rfl ?_
  grind
 have HP:=hid hp;go_enter func187,ntmps187;go_wp2_with (first|(go_at_call 209;refine (Tryz.bits_Len 0 _ (by omega) (by omega)).mono ?_;rintro e w1 ⟨rfl,rfl⟩)|(go_at_call 234;refine (HP.o _ _).mono ?_;rintro e w1 ⟨rfl,rfl⟩))
 go_end0
 grind
theorem zJJ (w:World):CC 189 #[.slice none 0 0] w fun e a=>e=.returned (.slice none 0 0)/\a=w:=by
 go_enter func189,ntmps189
 go_wp2_with fail
 go_ret;exact ⟨rfl,rfl⟩
theorem zNx (n0:Nat) (u:Value) (p:List Tm) (w:World) (h:KM.Own n0 w u p) (k:n0<=w.heap.size) (f:p.length<=12):CC 187 #[u,.func (.func 188) #[] #[]] w fun e a =>
   e=.returned (.tuple #[])/\∃d':Array Tm,d'.toList.Perm p/\SortedIn (ltOf zF8) 0 d'.size d'/\KM.Own n0 a u d'.toList/\Below n0 w a:=by
 rcases h.2 with ⟨rfl,d⟩|⟨g,c,l,rfl,_⟩
 ·obtain rfl:=List.length_eq_zero_iff.1 d;refine (zIc _ w).mono ?_;rintro e a ⟨rfl,rfl⟩;exact ⟨rfl,#[],xbU _,fun i j _ _ hj=>absurd hj (Nat.not_lt_zero _),KM.own_nil _ _,zaR _ _⟩
 refine (zJG n0 g p.length c p w h rfl k f).mono ?_
 grind
theorem zN1 (n0:Nat) (u:Value) (d:Array Tm) (w:World) (h:KM.Own n0 w u d.toList) (j:n0<=w.heap.size) (n:d.size<=12):CC 189 #[u] w fun e a=>∃u',e=.returned u'/\KM.Own n0 a u' (compactUpTo d d.size)/\Below n0 w a:=by
 rcases h.2 with ⟨rfl,i⟩|⟨g,c,m,rfl,_⟩
 ·have f:d.size=0:=by simpa using i
  refine (zJJ w).mono ?_;rintro e a ⟨rfl,rfl⟩;refine ⟨_,rfl,?_,zaR _ _⟩;rw [f];exact KM.own_nil _ _
 refine (zGB n0 g d.toList.length c d w h (by simp) j (by simp;omega)).mono ?_;rintro e a ⟨rfl,l,k⟩
 grind
theorem zK7 (v:Value) (p:List Tm) (w:World) (m:KM.Is w v p) (A:qZ p):CC 132 #[v] w fun e d=>zQd w p e d:=by
 have f:=hid (zGn v p w m A)
 by_cases hm:nJ p=0
 ·have S:=(zAi hm).1;have h:Hid (zIG p=xY p):=by show _=_;unfold zIG;rw [xae hm]
  rw [hm] at f;have C:=hid hm;have I:Hid (∀W:World,Bw w W->CC 186 #[v] W fun e d=>∃u,e=.returned u/\KM.Own W.z d u p/\Bw W d):=fun W P=>cR v p W (zC.is_kept m P) (by omega)
  go_enter func132,ntmps132
  go_wp2_with (first
   | (go_at_call 131;refine f.o.mono ?_;rintro e c ⟨rfl,a⟩)
   | (go_at_call 186;refine (I.o c a).mono ?_;rintro e L ⟨l,rfl,t,g⟩;have E:=hid t;clear t)
   | (go_at_call 187;refine (zNx c.z l p L E.o g.size (by omega)).mono ?_;rintro e Q ⟨rfl,s,i,k,q,j⟩;have N:=hid q;have y:=hid i;have H:=hid k;have R:s.size<=8:=(by have:=y.o.length_eq;grind);clear q i k)
   | (go_at_call 189;refine (zN1 c.z l s Q N.o (zaU g.size j.size) (by omega)).mono ?_;rintro e T ⟨J,rfl,r,O⟩;have F:=hid r;clear r))
  go_ret2
  refine ⟨⟨J,by rw [C.o];rfl,?_⟩,?_⟩
  ·rw [h.o];obtain ⟨G,D⟩:=zCb H.o;have e:=zEo (p:=p) G (fun x=>(D x).trans y.o.mem_iff);rw [<-e];exact zC.own_weak F.o a.size
  exact ((a.trans (g.mono a.size)).trans (j.mono a.size)).trans (O.mono a.size)
 have K:(nJ p != 0)=true:=by rw [bne_iff_ne];exact hm
 have h:Hid (zIG p=[]):=by show _=_;unfold zIG;rw [xag hm]
 obtain ⟨M,n⟩:=eE (nJ p);rw [n] at f K;have B:=hid n;go_enter func132,ntmps132;go_wp2_with (first|(go_at_call 131;refine f.o.mono ?_;rintro e c ⟨rfl,a⟩))
 go_ret2
 refine ⟨⟨sc none 0 0,by rw [B.o];rfl,?_⟩,a⟩;rw [h.o];exact KM.own_nil _ _
theorem zPS:NeqAt prog 239 (fun x:Tm=>.agg (vQ x).toArray) (fun x y=>decide (x=y)):=⟨fun x y w=>zHO x y w,GuardAt.agg (fun x:Tm=>(vQ x).toArray) (by kernel_rfl)⟩
theorem zAK:∀(p q:List Tm),Lib.allEq (fun x y=>decide (x=y)) p q=decide (p=q)
 | [],[]=>rfl
 | [],y::q=>by simp [Lib.allEq]
 | x::p,[]=>by simp [Lib.allEq]
 | x::p,y::q=>by
  have:=zAK p q
  grind [Lib.allEq]
theorem zL2 (d i:Option Addr) (h f m:Nat) (c:m<=maxLen) (w:World):CC 291 #[.slice d 0 h,.slice i m f] w fun e a=>e=.returned (.bool (decide (m=0)))/\a=w:=by
 unfold maxLen at c
 by_cases h0:m=0
 ·subst h0;go_enter func291,ntmps291;go_wp2_with fail;refine xaD 1 ?_;rw [xav];go_wp2_with fail;go_ret;exact ⟨rfl,rfl⟩
 have j:((0:Int) != (m:Int))=true:=by simp;omega
 have g:=xar h0;rw [g];go_enter func291,ntmps291;go_wp2_with fail;go_ret;exact ⟨rfl,rfl⟩
theorem zKb (d g:Option Addr) (f c m:Nat) (h:m≠0) (w:World):CC 291 #[.slice d m f,.slice g 0 c] w fun e a=>e=.returned (.bool false)/\a=w:=by
 have i:((m:Int) != 0)=true:=by simp;omega
 go_enter func291,ntmps291
 go_wp2_with fail
 go_ret;exact ⟨rfl,rfl⟩
theorem zPO (v u:Value) (p q:List Tm) (w:World) (d:KM.Is w v p) (m:KM.Is w u q) (o:p.length<=maxLen) (g:q.length<=maxLen):CC 291 #[v,u] w fun e a=>e=.returned (.bool (decide (p=q)))/\∃n,a=w.drewN n:=by
 obtain ⟨h,c,rfl,k⟩:=d;obtain ⟨a2,k2,rfl,f⟩:=m
 by_cases h1:p=[]
 ·subst h1;refine (zL2 h a2 c k2 q.length g w).mono ?_;rintro e a ⟨rfl,rfl⟩;refine ⟨zH ?_,0,rfl⟩
  grind
 by_cases h2:q=[]
 ·subst h2;refine (zKb h a2 c k2 p.length (fun e=>h1 (List.length_eq_zero_iff.1 e)) w).mono ?_;rintro e a ⟨rfl,rfl⟩;exact ⟨zH (by rw [xar h1]),0,rfl⟩
 rcases k with k|⟨s,z,rfl,B⟩
 ·grind
 rcases f with f|⟨r,t,rfl,A⟩
 ·grind
 unfold maxLen at o g
 have l:=AnyQ.slices_Equal (α:=Tm) Tryz.eqTrm 3 isAgg239 sizeOf239 vQ (fun _=>rfl) (fun x y=>decide (x=y)) zPS s z p.length c r t q.length k2 p q w (zaL _) (zaL _) (by omega) (by omega)
  (fun j hj i v d=>by grind [zI8]) (fun j hj i v d=>by grind [zI8])
 change CC 291 _ _ _ at l
 grind [zAK]
theorem zJ6 (v u:Value) (p q:List Tm) (w:World) (hv:KM.Is w v p) (hu:KM.Is w u q) (hl1:p.length<=maxLen) (hl2:q.length<=maxLen):CC 249 #[v,u] w fun e w'=>e=.returned (.bool (decide (p=q)))/\Below w.heap.size w w':=by
 have HE:=hid (zPO v u p q w hv hu hl1 hl2);go_enter func249,ntmps249;go_wp2_with (go_at_call 291;refine HE.o.mono ?_;rintro e w1 ⟨rfl,n,rfl⟩);go_ret;exact ⟨rfl,zG (zaR _ _) n⟩
end
end
def QF:sO Fx where
 E N w f:=tR N w f.sl f.txt
 Blk f k:=f.sl.ownBlock=some k
 fr h f hP:=f.row h fun k hk=>hP k hk
 blk h k hk:=zaW h k hk
 weak h hM:=own_weak h hM
def QR:sO Rx where
 E N w r:=KM.Own N w r.sl r.tm/\zBh r.tm
 Blk r k:=r.sl.ownBlock=some k
 fr h f hP:=⟨f.row h.1 fun k hk=>hP k hk,h.2⟩
 blk h k hk:=zaW h.1 k hk
 weak h hM:=⟨zC.own_weak h.1 hM,h.2⟩
theorem zHQ:∀args w,(callFunc 266 args).run prog w=.ok (.enter 266 args) w:=xaR func266 (by kernel_rfl) rfl
theorem zGI:∀args w,(callFunc 217 args).run prog w=.ok (.enter 217 args) w:=xaR func217 (by kernel_rfl) rfl
theorem zOA (x:Fx) (w:World) (I:x.at w) (H:x.txt.length * 16<=140737488355328):CC 266 #[.agg (sQ x).toArray] w fun e F=>uU zAh QF Fx.fld w (Fx.fld x) e F:=by
 obtain ⟨n,h,l,u⟩:=vP w (sQ x).toArray #[tq ⟨#[]⟩,sc none 0 0] 82 82;obtain ⟨V,hV⟩:=eE ((w.alloc (.cells (sQ x).toArray 82)).alloc (.cells #[tq ⟨#[]⟩,sc none 0 0] 82));obtain ⟨M,hM⟩:=eE w.heap.size;rw [hV] at n h l u;rw [hM] at h l u;have C:=hid (mW x.p x.cap x.txt V (I.kept n) H);have z:=hid n;obtain ⟨xn,xp,xc,xm⟩:=x;simp only [sQ,Fx.sl] at *;have K:Hid (∀j:World,Bw V j->j.heap[M]? = some (oc [tq xn,sc xp xm.length xc].toArray 82)/\j.heap[M+1]? = some (oc #[tq ⟨#[]⟩,sc none 0 0] 82)):=fun j A=>⟨(A.block M (by omega)).trans h,(A.block (M+1) (by omega)).trans l⟩
 have T:V.cell? (aa M 1)=some (sc xp xm.length xc):=cz h;go_enter func266,ntmps266;go_wp2_with fail;(try rw [hV]);(try rw [hM]);refine C.o.mono ?_;rintro e d ⟨G,rfl,m,q⟩;obtain ⟨p1,a,rfl⟩:∃p c,G=sc p xm.length c:=pH m;obtain ⟨e1,e2⟩:=K.o d q;obtain ⟨W1,hW1⟩:=eE (d.setCell (aa M 1) (sc p1 xm.length a));have y:W1.heap[M]? = some (oc #[tq xn,sc p1 xm.length a] 82):=by rw [<-hW1];exact xaa _ M 1 _ _ _ e1
 have i:W1.heap[M+1]? = some (oc #[tq ⟨#[]⟩,sc none 0 0] 82):=by
  rw [<-hW1];exact (xaC _ _ (M+1) _ (by show M+1≠M;omega)).trans e2
 have J:Fr (fun b=>b=M) d W1:=by rw [<-hW1];exact xB d M 1 _
 obtain ⟨g,r⟩:=eE ((W1.setCell (aa (M+1) 0) (tq xn)).setCell (aa (M+1) 1) (sc p1 xm.length a))
 have s:g.heap[M+1]? = some (oc #[tq xn,sc p1 xm.length a] 82):=by
  rw [<-r];exact xaa _ (M+1) 1 _ _ _ (xaa W1 (M+1) 0 _ _ _ i)
 have t:Fr (fun b=>b=M∨b=M+1) d g:=by
  rw [<-r];exact (((J.mono fun k f=>xac f).then (xB W1 (M+1) 0 _) fun k f=>xac (xaf f)).then (xB _ (M+1) 1 _) fun k f=>xac (xaf f))
 have D:Hid (tR w.heap.size g (sc p1 xm.length a) xm):=by
  have h:=t.row (show d.ownsRow V.heap.size _ _ (sc p1 xm.length a) xm.length _ from m) fun k f Q=>by
   have:=(zaW (show d.ownsRow V.heap.size _ _ (sc p1 xm.length a) xm.length _ from m) k f).1;omega
  exact own_weak h (by omega)
 have E:Hid (Bw w g):=(zA z.o z.o.size q).trans (t.below (by have:=q.size;omega) fun k f=>by omega);have c1':d.cell? (aa M 1)=some (sc xp xm.length xc):=cz e1;have X:d.frozen? (aa M 1)=false:=zaF e1 1;have W:W1.cell? (aa M 0)=some (tq xn):=cz y;have S:W1.cell? (aa M 1)=some (sc p1 xm.length a):=cz y;have P:W1.cell? (aa (M+1) 0)=some (tq ⟨#[]⟩):=cz i;have U:W1.cell? (aa (M+1) 1)=some (sc none 0 0):=cz i;have O:W1.frozen? (aa (M+1) 0)=false:=zaF i 0;have R:W1.frozen? (aa (M+1) 1)=false:=zaF i 1;have L:Hid (g.cell? (aa (M+1) 0)=some (tq xn)/\g.cell? (aa (M+1) 1)=some (sc p1 xm.length a)):=⟨by rw [zaC s];rfl,by rw [zaC s];rfl⟩;go_upto_region 2 with fail
 (try rw [hW1]);go_wp2_with fail;(try rw [r]);obtain ⟨N,B⟩:=L.o;exact zaB (v:=.agg #[tq xn,sc p1 xm.length a]) (by simp [results,results266,go_sem,N,B]) rfl ⟨⟨xn,p1,a,xm⟩,rfl,D.o,rfl,E.o⟩
theorem zNE (x:Rx) (w:World) (q:x.at w):CC 217 #[.agg (yQ x).toArray] w fun e G=>uU KRx QR Rx.rg w (Rx.rg x) e G:=by
 obtain ⟨n,h,l,y⟩:=vP w (yQ x).toArray #[tq ⟨#[]⟩,sc none 0 0] 124 124;obtain ⟨V,hV⟩:=eE ((w.alloc (.cells (yQ x).toArray 124)).alloc (.cells #[tq ⟨#[]⟩,sc none 0 0] 124));obtain ⟨M,hM⟩:=eE w.heap.size;rw [hV] at n h l y;rw [hM] at h l y;have D:=hid (cR x.sl x.tm V (zC.is_kept q.1 n) q.2.2);have L:=hid q.2;have A:=hid n;obtain ⟨xn,xp,xc,xm⟩:=x;simp only [yQ,Rx.sl] at *;have J:Hid (∀j:World,Bw V j->j.heap[M]? = some (oc [tq xn,sc xp xm.length xc].toArray 124)/\j.heap[M+1]? = some (oc #[tq ⟨#[]⟩,sc none 0 0] 124)):=fun j B=>⟨(B.block M (by omega)).trans h,(B.block (M+1) (by omega)).trans l⟩
 have T:V.cell? (aa M 1)=some (sc xp xm.length xc):=cz h;go_enter func217,ntmps217;go_wp2_with fail;(try rw [hV]);(try rw [hM]);refine D.o.mono ?_;rintro e d ⟨H,rfl,m,r⟩;obtain ⟨p1,a,rfl⟩:∃p c,H=sc p xm.length c:=zC.own_shape m;obtain ⟨e1,e2⟩:=J.o d r;obtain ⟨W1,hW1⟩:=eE (d.setCell (aa M 1) (sc p1 xm.length a));have z:W1.heap[M]? = some (oc #[tq xn,sc p1 xm.length a] 124):=by rw [<-hW1];exact xaa _ M 1 _ _ _ e1
 have i:W1.heap[M+1]? = some (oc #[tq ⟨#[]⟩,sc none 0 0] 124):=by
  rw [<-hW1];exact (xaC _ _ (M+1) _ (by show M+1≠M;omega)).trans e2
 have I:Fr (fun b=>b=M) d W1:=by rw [<-hW1];exact xB d M 1 _
 obtain ⟨g,s⟩:=eE ((W1.setCell (aa (M+1) 0) (tq xn)).setCell (aa (M+1) 1) (sc p1 xm.length a))
 have t:g.heap[M+1]? = some (oc #[tq xn,sc p1 xm.length a] 124):=by
  rw [<-s];exact xaa _ (M+1) 1 _ _ _ (xaa W1 (M+1) 0 _ _ _ i)
 have u:Fr (fun b=>b=M∨b=M+1) d g:=by
  rw [<-s];exact (((I.mono fun k f=>xac f).then (xB W1 (M+1) 0 _) fun k f=>xac (xaf f)).then (xB _ (M+1) 1 _) fun k f=>xac (xaf f))
 have E:Hid (KM.Own w.heap.size g (sc p1 xm.length a) xm):=by
  have h:=u.row (show d.ownsRow V.heap.size _ _ (sc p1 xm.length a) xm.length _ from m) fun k f Q=>by
   have:=(zaW (show d.ownsRow V.heap.size _ _ (sc p1 xm.length a) xm.length _ from m) k f).1;omega
  exact own_weak h (by omega)
 have F:Hid (Bw w g):=(zA A.o A.o.size r).trans (u.below (by have:=r.size;omega) fun k f=>by omega);have c1':d.cell? (aa M 1)=some (sc xp xm.length xc):=cz e1;have X:d.frozen? (aa M 1)=false:=zaF e1 1;have W:W1.cell? (aa M 0)=some (tq xn):=cz z;have S:W1.cell? (aa M 1)=some (sc p1 xm.length a):=cz z;have P:W1.cell? (aa (M+1) 0)=some (tq ⟨#[]⟩):=cz i;have U:W1.cell? (aa (M+1) 1)=some (sc none 0 0):=cz i;have O:W1.frozen? (aa (M+1) 0)=false:=zaF i 0;have R:W1.frozen? (aa (M+1) 1)=false:=zaF i 1;have K:Hid (g.cell? (aa (M+1) 0)=some (tq xn)/\g.cell? (aa (M+1) 1)=some (sc p1 xm.length a)):=⟨by rw [zaC t];rfl,by rw [zaC t];rfl⟩;go_upto_region 2 with fail
 (try rw [hW1]);go_wp2_with fail;(try rw [s]);obtain ⟨N,C⟩:=K.o;exact zaB (v:=.agg #[tq xn,sc p1 xm.length a]) (by simp [results,results217,go_sem,N,C]) rfl ⟨⟨xn,p1,a,xm⟩,rfl,⟨E.o,L.o⟩,rfl,F.o⟩
theorem zQJ {w:World} {v:Value} {d:List Fx} (h:wH w v d):zAh.Is w v d:=by
 obtain ⟨p,c,rfl,h,_⟩:=h;refine ⟨p,c,rfl,h.imp id ?_⟩;rintro ⟨b,off,hp,hx⟩;refine ⟨b,off,hp,fun i hi j u a=>?_⟩;obtain ⟨h1,h2⟩:=hx i hi
 match j,a with
 | 0,a=>cases a;exact h1
 | 1,a=>cases a;exact h2
 | j+2,a=>simp [zAh,sQ] at a
theorem zDt (v:Value) (d:List Fx) (w:World) (j:wH w v d) (l:xO d):CC 265 #[v,.func (.func 266) #[] #[]] w fun e i=>∃u o,e=.returned u/\zW w.heap.size i u o/\o.map Fx.fld=d.map Fx.fld/\Below w.heap.size w i:=by
 refine (zKr QF Fx.fld _ zHQ v d w (zQJ j) l.1 fun W x m g=>zOA x W ((j.at_all x g).kept m) (l.2 x g)).mono ?_;rintro e i ⟨p,c,L,rfl,f,n⟩;refine ⟨_,L,rfl,⟨⟨f.row.own,fun x g=>(f.each x g).1⟩,f.apart.imp fun {a b} h=>?_⟩,n,f.row.bel⟩
 cases ha:a.sl.ownBlock with
 | none=>grind
 | some k=>exact xaf fun e=>h k ha e.symm
theorem zLU (v:Value) (l:List Rx) (w:World) (b:KRx.Is w v l) (f:∀r∈l,r.at w) (a:l.length * 40<=140737488355328):CC 216 #[v,.func (.func 217) #[] #[]] w fun e d=>pX KRx QR Rx.rg w (l.map Rx.rg) e d:=zK6 QR Rx.rg _ zGI v l w b a fun W x c g=>zNE x W ((f x g).on c)
def QC:sO Cx where
 E N w x:=vS N w x
 Blk x k:=sC x k
 fr h f hP:=h.fr f hP
 blk h k hk:=h.blk k hk
 weak h hM:=h.weak hM
theorem zGC:∀args w,(callFunc 219 args).run prog w=.ok (.enter 219 args) w:=xaR func219 (by kernel_rfl) rfl
theorem zOn (x:Cx) (w:World) (P:CIn w x):CC 219 #[.agg (xW x).toArray] w fun e g=>uU KCx QC Cx.ch w x.ch e g:=by
 obtain ⟨ae,N,O,X⟩:=vP w (xW x).toArray #[tq ⟨#[]⟩,tq ⟨#[]⟩,.bool false,sc none 0 0,.bool false,sc none 0 0] 67 67;obtain ⟨V,hV⟩:=eE ((w.alloc (.cells (xW x).toArray 67)).alloc (.cells #[tq ⟨#[]⟩,tq ⟨#[]⟩,.bool false,sc none 0 0,.bool false,sc none 0 0] 67));obtain ⟨G,hG⟩:=eE w.heap.size;rw [hV] at ae N O X;rw [hG] at N O X;have ai:Hid (V.drew.heap[G]? = some (oc #[tq x.a,tq x.b,.bool x.wl,sc x.wp x.wo.length x.wc,.bool x.il,sc x.ip x.io.length x.ic] 67)):=N;have HZ:Hid (V.drew.heap[G+1]? = some (oc #[tq ⟨#[]⟩,tq ⟨#[]⟩,.bool false,sc none 0 0,.bool false,sc none 0 0] 67)):=O;have ag:Hid (V.drew.heap.size=G+2):=X;have R:G<V.drew.heap.size:=(gA ai.o).1;have T:Hid (∀i,Fr (fun b=>b=G) V.drew i->Bw w i):=fun i f=>ae.drew.trans (f.below ae.drew.size fun k l=>by omega)
 have aj:Hid (∀i,Fr (fun b=>b=G) V.drew i->CC 265 #[sc x.wp x.wo.length x.wc,.func (.func 266) #[] #[]] i fun e g=>∃u o,e=.returned u/\zW i.heap.size g u o/\o.map Fx.fld=x.wo.map Fx.fld/\Bw i g):=fun i f=>zDt _ x.wo i (P.was.kept (T.o i f)) P.wcp
 have al:Hid (∀i,Fr (fun b=>b=G) V.drew i->CC 265 #[sc x.ip x.io.length x.ic,.func (.func 266) #[] #[]] i fun e g=>∃u o,e=.returned u/\zW i.heap.size g u o/\o.map Fx.fld=x.io.map Fx.fld/\Bw i g):=fun i f=>zDt _ x.io i (P.is.kept (T.o i f)) P.icp
 have U:=hid P;simp only [xW] at *;go_enter func219,ntmps219;go_wp2_with fail;(try rw [hV]);(try rw [hG]);have HG:=hid hG;refine tkb (S:=fun _=>True) trivial fun hA=>?_;refine tkv2 0 3 (.pointer (some (aa G 3))) (.pointer (some (aa G 5))) hA ?_;simp only [Act.put,sz];refine uR [2,5,7,8,9] [1,4,6] (fun a0 k H a g=>∃A t s z q r,a=wL a0 [(4,A),(5,t),(7,s),(8,z),(9,q),(10,r)]/\tZ V.drew G x (zPU k) (H.take 2) A t s z g/\(H[2]? = some true->q=.pointer (some (aa G 3)))/\(4<=k->r=.pointer (some (aa G 5)))) (by kernel_rfl) (by decide) ⟨_,_,_,_,_,_,(pI _ [4,5,7,8,9,10]).symm,zIb ai.o _ _ _ _,(fun h=>by cases h),(fun h=>by omega)⟩ ?hS ?hmain ?halloc ?hend
 case hS=>grind
 case hmain =>
  rintro k D H a g l Z ac ⟨A,t,s,z,q,r,rfl,c,I,ab⟩
  obtain ⟨p,n,B,rfl⟩:∃p n B,H=[p,n,B]:=by
   match H,Z with
   | [p,n,B],_=>grind
  rcases k with _|_|_|_|_|k
  ·obtain rfl:D=2:=by grind
   cases p with
   | false=>exact (sP ac (by cases n<;>cases B<;>kernel_rfl)).elim
   | true =>
   obtain rfl:=c.f1 rfl;have E:=hid c;have C:=hid I;refine ⟨_,zB rfl,fun K m=>?_⟩;simp only [wL,xal,xaq,Act.put,sz];rw [xae (by rfl)]
   go_simp
   refine (aj.o g E.o.fr).mono ?_;rintro e w2 ⟨u,o,rfl,Y,hm,af⟩;have y:=hid (zJ1 E.o R af Y hm);go_wp2_with fail;exact m.out _ _ ⟨_,u,s,z,q,r,rfl,y.o,C.o,(fun h=>by omega)⟩
  ·obtain rfl:D=5:=by grind
   have N:=c.d1 (by decide);obtain rfl:p=true:=by grind
   cases n with
   | false=>exact (sP ac (by cases B<;>kernel_rfl)).elim
   | true =>
   obtain rfl:=c.f2 rfl;have E:=hid c;have C:=hid I;refine ⟨_,zB rfl,fun K m=>?_⟩;simp only [wL,xal,xaq,Act.put,sz];rw [xae (by rfl)]
   go_simp
   refine (al.o g E.o.fr).mono ?_;rintro e w2 ⟨u,o,rfl,Y,hm,af⟩;have y:=hid (zHh E.o R af Y hm);go_wp2_with fail;exact m.out _ _ ⟨A,t,_,u,q,r,rfl,y.o,C.o,(fun h=>by omega)⟩
  ·obtain rfl:D=7:=by grind
   have N:=c.d1 (by decide);obtain rfl:p=true:=by grind
   have O:=c.d2 (by decide);obtain rfl:n=true:=by grind
   obtain ⟨o,J,_⟩:=c.c1 (by decide);obtain ⟨pu,cu,rfl⟩:=xA J;have c0:g.cell? (aa G 3)=some (sc x.wp x.wo.length x.wc):=by rw [zaC c.box];rfl
   have z0:g.frozen? (aa G 3)=false:=zaF c.box 3;have y:=hid (zG2 c R)
   cases B with
   | false=>exact (sP ac (by kernel_rfl)).elim
   | true =>
   obtain rfl:=I rfl;refine ⟨_,zB rfl,fun K m=>?_⟩;simp only [wL,xal,xaq,Act.put,sz];rw [xae (by rfl)]
   go_simp
   go_wp2_with fail
   exact m.out _ _ ⟨A,_,s,z,_,r,rfl,y.o,(fun _=>rfl),(fun h=>by omega)⟩
  ·obtain rfl:D=8:=by grind
   have E:=hid c;have C:=hid I;refine ⟨_,zB rfl,fun K m=>?_⟩;simp only [wL,xal,xaq,Act.put,sz];rw [xae (by rfl)]
   go_simp
   go_wp2_with fail
   exact m.out _ _ ⟨A,t,s,z,q,_,rfl,E.o,C.o,(fun _=>rfl)⟩
  ·obtain rfl:D=9:=by grind
   have N:=c.d1 (by decide);obtain rfl:p=true:=by grind
   have O:=c.d2 (by decide);obtain rfl:n=true:=by grind
   obtain ⟨o,_,_,J⟩:=c.c1 (by decide);obtain ⟨o',q2,_⟩:=J (by decide);obtain ⟨pu,cu,rfl⟩:=xA q2;have c0:g.cell? (aa G 5)=some (sc x.ip x.io.length x.ic):=by rw [zaC c.box];rfl
   have z0:g.frozen? (aa G 5)=false:=zaF c.box 5;have y:=hid (zG0 c R);obtain rfl:=ab (by omega);have C:=hid I;refine ⟨_,zB rfl,fun K m=>?_⟩;simp only [wL,xal,xaq,Act.put,sz];rw [xae (by rfl)]
   go_simp
   go_wp2_with fail
   exact m.out _ _ ⟨A,t,s,_,q,_,rfl,y.o,C.o,(fun _=>rfl)⟩
  simp at l
 case halloc =>
  rintro j D k H a g hj l Z hf ⟨A,t,s,z,q,r,rfl,c,I,ab⟩;have C:=hid I;have ad:=hid ab
  obtain ⟨p,n,B,rfl⟩:∃p n B,H=[p,n,B]:=by
   match H,Z with
   | [p,n,B],_=>grind
  rcases j with _|_|_|j
  ·obtain rfl:D=1:=by grind
   obtain rfl:p=false:=by grind
   have Q:zPU k=0:=by
    rcases xbg (zPU k) with h|h
    ·exact h
    have:=c.d1 h;simp at this
   rw [Q] at c;have ak:=hid Q;have c0:g.cell? (aa G 3)=some (sc x.wp x.wo.length x.wc):=by rw [zaC c.box];rfl
   have y:=hid (zIe c);refine ⟨_,zB rfl,fun K m=>?_⟩;simp only [wL,xal,xaq,Act.put,sz];rw [xae (by rfl)]
   go_simp
   go_wp2_with fail
   exact m.out _ _ ⟨_,t,s,z,q,r,rfl,by rw [ak.o];exact y.o,C.o,ad.o⟩
  ·obtain rfl:D=4:=by grind
   obtain rfl:n=false:=by grind
   have Q:¬ 4<=zPU k:=fun h=>by
    have:=c.d2 (by omega);simp at this
   have c0:g.cell? (aa G 5)=some (sc x.ip x.io.length x.ic):=by
    rw [zaC c.box,xag Q];rfl
   have y:=hid (zJ3 c);refine ⟨_,zB rfl,fun K m=>?_⟩;simp only [wL,xal,xaq,Act.put,sz];rw [xae (by rfl)]
   go_simp
   go_wp2_with fail
   exact m.out _ _ ⟨A,t,_,z,q,r,rfl,y.o,C.o,ad.o⟩
  ·obtain rfl:D=6:=by grind
   have E:=hid c;refine ⟨_,zB rfl,fun K m=>?_⟩;simp only [wL,xal,xaq,Act.put,sz];rw [xae (by rfl)]
   go_simp
   go_wp2_with fail
   exact m.out _ _ ⟨A,t,s,z,_,r,rfl,E.o,(fun _=>rfl),ad.o⟩
  simp at hj
 rintro a d ⟨A,t,s,z,q,r,rfl,c,_,_⟩;obtain ⟨o,J,q2,q3⟩:=c.c1 (by decide);obtain ⟨o',q4,q5,q6⟩:=q3 (by decide);obtain ⟨pu,cu,rfl⟩:=xA J;obtain ⟨pv,cv,rfl⟩:=xA q4;have M:d.heap[G]? = some (oc #[tq x.a,tq x.b,.bool x.wl,sc pu o.length cu,.bool x.il,sc pv o'.length cv] 67):=c.box;have F:d.heap[G+1]? = some (oc #[tq ⟨#[]⟩,tq ⟨#[]⟩,.bool false,sc none 0 0,.bool false,sc none 0 0] 67):=(c.fr.block (G+1) (by rw [ag.o];omega) (by omega)).trans HZ.o;obtain ⟨W4,hW4⟩:=eE (((((((d.setCell (aa (G+1) 0) (tq x.a)).setCell (aa (G+1) 1) (tq x.b)).setCell (aa (G+1) 2) (.bool x.wl)).setCell (aa (G+1) 3) (sc pu o.length cu)).setCell (aa (G+1) 4) (.bool x.il)).setCell (aa (G+1) 5) (sc pv o'.length cv)))
 have L:W4.heap[G+1]? = some (oc #[tq x.a,tq x.b,.bool x.wl,sc pu o.length cu,.bool x.il,sc pv o'.length cv] 67):=by
  rw [<-hW4];exact xaa _ (G+1) 5 _ _ _ (xaa _ (G+1) 4 _ _ _ (xaa _ (G+1) 3 _ _ _ (xaa _ (G+1) 2 _ _ _ (xaa _ (G+1) 1 _ _ _ (xaa _ (G+1) 0 _ _ _ (F))))))
 have ah:Fr (fun b=>b=G+1) d W4:=by
  rw [<-hW4];exact ((((((xB d (G+1) 0 _).then (xB _ (G+1) 1 _) fun k l=>xac l).then (xB _ (G+1) 2 _) fun k l=>xac l).then (xB _ (G+1) 3 _) fun k l=>xac l).then (xB _ (G+1) 4 _) fun k l=>xac l).then (xB _ (G+1) 5 _) fun k l=>xac l)
 have W:Hid (vS w.heap.size W4 ⟨x.a,x.b,x.wl,pu,cu,o,x.il,pv,cv,o'⟩/\Bw w W4/\o.map Fx.fld=x.wo.map Fx.fld/\o'.map Fx.fld=x.io.map Fx.fld):=by
  have am:=ag.o;have hc:vS V.drew.heap.size d ⟨x.a,x.b,x.wl,pu,cu,o,x.il,pv,cv,o'⟩:=⟨J,q4,zCG q2 U.o.wfit,zCG q5 U.o.ifit,q6,zAN q2 U.o.wcp,zAN q5 U.o.icp⟩;refine ⟨(hc.fr ah fun k l hp=>by have:=(hc.blk k l).1;omega).weak (by rw [HG.o];omega),(T.o d c.fr).trans (ah.below (T.o d c.fr).size fun k l=>by rw [HG.o];omega),q2,q5⟩
 have d0:d.cell? (aa G 0)=some (tq x.a):=cz M;have d1:d.cell? (aa G 1)=some (tq x.b):=cz M;have d2:d.cell? (aa G 2)=some (.bool x.wl):=cz M;have d3:d.cell? (aa G 3)=some (sc pu o.length cu):=cz M;have d4:d.cell? (aa G 4)=some (.bool x.il):=cz M;have d5:d.cell? (aa G 5)=some (sc pv o'.length cv):=cz M;have k0:d.cell? (aa (G+1) 0)=some (tq ⟨#[]⟩):=cz F;have k1:d.cell? (aa (G+1) 1)=some (tq ⟨#[]⟩):=cz F;have k2:d.cell? (aa (G+1) 2)=some (.bool false):=cz F;have k3:d.cell? (aa (G+1) 3)=some (sc none 0 0):=cz F;have k4:d.cell? (aa (G+1) 4)=some (.bool false):=cz F;have k5:d.cell? (aa (G+1) 5)=some (sc none 0 0):=cz F;have r0:=zaF F;have HE:Hid (W4.cell? (aa (G+1) 0)=some (tq x.a)/\W4.cell? (aa (G+1) 1)=some (tq x.b)/\W4.cell? (aa (G+1) 2)=some (.bool x.wl)/\W4.cell? (aa (G+1) 3)=some (sc pu o.length cu)/\W4.cell? (aa (G+1) 4)=some (.bool x.il)/\W4.cell? (aa (G+1) 5)=some (sc pv o'.length cv)):=⟨by rw [zaC L];rfl,by rw [zaC L];rfl,by rw [zaC L];rfl,by rw [zaC L];rfl,by rw [zaC L];rfl,by rw [zaC L];rfl⟩;simp only [wL,xal,xaq,Act.put,sz];go_wp2_with fail;(try rw [hW4]);obtain ⟨g0,g1,g2,g3,g4,g5⟩:=HE.o;refine zaB (v:=.agg #[tq x.a,tq x.b,.bool x.wl,sc pu o.length cu,.bool x.il,sc pv o'.length cv]) (by simp [results,results219,go_sem,g0,g1,g2,g3,g4,g5]) rfl ⟨⟨x.a,x.b,x.wl,pu,cu,o,x.il,pv,cv,o'⟩,rfl,W.o.1,?_,W.o.2.1⟩;simp only [Cx.ch,W.o.2.2.1,W.o.2.2.2]
theorem zMB (v:Value) (l:List Cx) (w:World) (a:dX w v l) (c:l.length * 96<=140737488355328):CC 218 #[v,.func (.func 219) #[] #[]] w fun e b=>pX KCx QC Cx.ch w (l.map Cx.ch) e b:=zLL QC Cx.ch _ zGC v l w a.is c fun W x f d=>zOn x W ((a.each x d).on f)
def zFG (W:World) (r:Rx) (e:Ending) (w':World):Prop:=∃p c,e=.returned (.agg #[.string r.typ,.slice p r.tm.length c])/\KM.Own W.heap.size w' (.slice p r.tm.length c) r.tm/\Below W.heap.size W w'
theorem bM (r:Rx) (w:World) (t:r.at w):CC 153 #[.agg (yQ r).toArray] w fun e g=>zFG w r e g:=by
 obtain ⟨j,k,m,x⟩:=vP w (yQ r).toArray #[tq ⟨#[]⟩,sc none 0 0] 124 124;obtain ⟨V,hV⟩:∃V,(w.alloc (.cells (yQ r).toArray 124)).alloc (.cells #[tq ⟨#[]⟩,sc none 0 0] 124)=V:=⟨_,rfl⟩;obtain ⟨M,hM⟩:∃M,w.heap.size=M:=⟨_,rfl⟩;rw [hV] at j k m x;rw [hM] at k m x;have z:=hid (cR r.sl r.tm V.drew (zC.is_kept t.1 j.drew) t.2.2);have q:=hid j
 have p:Hid (∀a:World,Below V.heap.size V a->(a.cell? (aa M 0)=some (tq r.typ)/\a.cell? (aa M 1)=some r.sl)/\(a.cell? (aa (M+1) 0)=some (tq ⟨#[]⟩)/\a.cell? (aa (M+1) 1)=some (sc none 0 0))/\a.frozen? (aa (M+1) 0)=false/\a.frozen? (aa (M+1) 1)=false):=fun a s=>by
  have u:=(s.block M (by omega)).trans k;have c:=(s.block (M+1) (by omega)).trans m;exact ⟨⟨by rw [zaC u];rfl,by rw [zaC u];rfl⟩,⟨by rw [zaC c];rfl,by rw [zaC c];rfl⟩,zaF c 0,zaF c 1⟩
 obtain ⟨⟨d,b⟩,_,_⟩:=p.out V (zaR _ _);obtain ⟨rt,rp,rc,rm⟩:=r;simp only [yQ,Rx.sl] at *;go_enter func153,ntmps153;go_wp2_with fail;(try rw [hV]);(try rw [hM]);refine tkb (S:=fun g=>g.cell? (aa M 0)=some (tq rt)/\g.cell? (aa M 1)=some (sc rp rm.length rc)) ⟨d,b⟩ fun H=>?_;refine tkv4 0 1 2 3 (.pointer (some (aa M 0))) (tq rt) (.pointer (some (aa M 1))) (sc rp rm.length rc) H ?_;simp only [Act.put,sz];refine tkc 4 fun K h=>?_
 go_simp
 refine z.out.mono ?_;rintro e f ⟨F,rfl,n,D⟩;obtain ⟨p1,c1,rfl⟩:=zC.own_shape n;have hb1':Below V.heap.size V f:=(zG (zaR _ _) 1).trans D;obtain ⟨⟨d,b⟩,⟨q0,q1⟩,r0,r1⟩:=p.out f hb1';have C:Hid (KM.Own V.heap.size f (sc p1 rm.length c1) rm):=n;have G:=hid hb1';obtain ⟨W4,hW4⟩:∃W4,(f.setCell (aa (M+1) 0) (tq rt)).setCell (aa (M+1) 1) (sc p1 rm.length c1)=W4:=⟨_,rfl⟩
 have A:W4.cell? (aa M 0)=some (tq rt)/\W4.cell? (aa M 1)=some (sc rp rm.length rc):=by
  rw [<-hW4];simp [go_sem,d,b]
 have l:W4.cell? (aa (M+1) 0)=some (tq rt):=by rw [<-hW4];simp [go_sem,q0]
 have i:W4.cell? (aa (M+1) 1)=some (sc p1 rm.length c1):=by rw [<-hW4];simp [go_sem,q1]
 have E:=hid (xbf l i)
 have y:Hid (Below w.heap.size w W4):=by
  rw [<-hW4];have o:=zA q.out q.out.size hb1';rw [hM] at o ⊢;exact (o.setCell (show M<=M+1 by omega) _).setCell (show M<=M+1 by omega) _
 have B:Hid (KM.Own w.heap.size W4 (sc p1 rm.length c1) rm):=by
  rw [<-hW4];exact zC.own_weak (wC (wC C.out (by omega) _ _) (by omega) _ _) (by omega)
 go_wp2_with fail
 refine h.out _ _ (⟨d,b⟩) (fun H=>?_)
 try simp only [Act.put,sz]
 refine tkv 5 (.agg #[tq rt,sc p1 rm.length c1]) H ?_;simp only [Act.put,sz];refine tkc 6 fun K h=>?_
 go_simp
 go_wp2_with fail
 (try rw [hW4]);refine h.out _ _ A (fun H=>?_)
 try simp only [Act.put,sz]
 refine tkd ?_;obtain ⟨l,i⟩:=E.out;go_wp2_with fail;exact zaB (v:=.agg #[tq rt,sc p1 rm.length c1]) (by simp [results,results153,go_sem,l,i]) rfl ⟨p1,c1,rfl,B.out,y.out⟩
theorem zCd:(prog.info? 124).map (fun i=>(i.zero,i.size,i.bytes))=some (some (.agg #[.string ⟨#[]⟩,.slice none 0 0]),2,40):=by kernel_rfl
theorem dW (v : Value) (l : List Rx) (w : World) (J : KRx.Is w v l) (R : ∀ r ∈ l, r.at w) (hl : l.length <= 3518437208883):CC 179 #[v] w fun e X => zC2 w (l.map Rx.rg) e X := by
  obtain ⟨I, ae, ab, ac, N⟩ := xaL zCd;have Y := hid ae;obtain ⟨p, cap, rfl, hd⟩ := J;have K := hid hd;have S := hid R;go_enter func179, ntmps179;go_wp2_with fail
  go_loopg [3, 8] l.length (fun gg T O wr => ∃ (i : Nat) (L : List Rx) (m : Option Addr) (j : Nat), T = sc m L.length j /\ O = ii i /\ i <= l.length /\ l.length - i <= gg /\ L.length <= i /\ Hid (jL w.z w (sc m L.length j) L wr /\ L.map Rx.rg = (l.take i).map Rx.rg))
  case atStart => exact ⟨0, [], none, 0, rfl, rfl, by omega, by omega, by simp, jL.nil (zaR _ _) (zaL _), by simp⟩
  obtain ⟨i, L, m, j, rfl, rfl, hi, ao, am, g⟩ := hrel
  by_cases hlt : i < l.length
  · have ak : (i : Int) < (l.length : Int) := by omega
    have an : (0 : Int) <= i := by omega
    obtain ⟨b1, o1, rfl, k1⟩ : ∃ b off, p = some (aa b off) /\ KRx.At w b off l := by
      rcases K.o with h | h
      · rw [h] at hlt; simp at hlt
      exact h
    have n : Bw w wr := g.o.1.row.bel;obtain ⟨y0, y1⟩ := zEm (zC.at_kept k1 n) i hlt;have E := S.o _ (zaN hlt)
    have ah : Hid ((l.take (i + 1)).map Rx.rg = (l.take i).map Rx.rg ++ [(l[i]).rg]) := by
      show _ = _
      rw [zaK hlt, xak];rfl
    generalize l[i] = x at *
    obtain ⟨V, s⟩ := eE (wr.alloc (.cells #[tq x.typ, x.sl] 124));have D : Bw wr V := by rw [<- s]; exact zaQ
    have M := hid (bM x V (E.on (zA n n.size D)));have q := hid (g.o.1.on D);have HM := hid g.o.2;have HF := hid E.2;obtain ⟨c, y, C, a⟩ := x;simp only [Rx.sl, yQ] at *;obtain ⟨Q, hQ⟩ := eE wr.z;have B : V.heap[Q]? = some (oc #[tq c, sc y a.length C] 124) := by rw [<- s, <- hQ]; exact xab wr _
    have d0 : V.cell? (aa Q 0) = some (tq c) := cz B;have d1 : V.cell? (aa Q 1) = some (sc y a.length C) := cz B;go_upto_region 5 with fail
    (try rw [hQ]);(try rw [s]);go_wp2_with fail;refine M.o.mono ?_;rintro e k ⟨f, d, rfl, t, G⟩;have U := q.o.on G;have ai := q.o.fresh (x := ⟨c, f, d, a⟩) t;have aj := q.o.row.base;simp only at t G;obtain ⟨W1, hW1⟩ := eE (k.alloc (.cells #[tq c, sc f a.length d] 124));have F : Bw k W1 := by rw [<- hW1]; exact zaQ
    have ad : Hid (W1.heap[k.z]? = some (oc #[tq c, sc f a.length d] 124)) := by rw [<- hW1]; exact xab k _
    have H := hid (U.on F);have af : Hid (KM.Own w.z W1 (sc f a.length d) a) := zC.own_weak (zC.own_on t F) aj;have P := hid ai
    go_wp2_with (at_builtin; refine xG KRx rfl _ _ 47 rfl I _ 40 underlying47 Y.o ab ac N rfl w.z w _ L rfl H.o.row ⟨c, f, d, a⟩ _ _ _ rfl rfl _ _ ad.o (by unfold maxLen; omega) (by omega) ?_
                 intro Z W w3 u A _;have al := hid (H.o.push (x := ⟨c, f, d, a⟩) af.o HF.o P.o u A);clear u A)
    go_roundg (l.length - (i + 1))
    case measure => omega
    exact ⟨i + 1, L ++ [⟨c, f, d, a⟩], some (aa Z 0), W, by rw [xah]; rfl, by go_num, by omega, by omega, by rw [xah, xaX]; omega, by rw [xah]; exact al.o, by rw [ah.o, xak, HM.o]; rfl⟩
  have ak : ¬ (i : Int) < (l.length : Int) := by omega
  have ag : l.take i = l := xaj (by omega);rw [ag] at g;go_wp2_with fail;go_ret;exact ⟨m, j, L, rfl, g.o.1, g.o.2⟩
theorem zFb (a b:Rx) (w:World) (i:a.at w) (l:b.at w):CC 206 #[.agg (yQ a).toArray,.agg (yQ b).toArray] w fun e r=>e=.returned (.bool (decide (a.rg=b.rg)))/\Below w.heap.size w r:=by
 obtain ⟨c,d,f,k⟩:=vP w (yQ a).toArray (yQ b).toArray 124 124;obtain ⟨V,hV⟩:=eE ((w.alloc (.cells (yQ a).toArray 124)).alloc (.cells (yQ b).toArray 124));obtain ⟨M,hM⟩:=eE w.heap.size;rw [hV] at c d f k;rw [hM] at d f k;have n:=hid (zJ6 a.sl b.sl a.tm b.tm V (i.on c).1 (l.on c).1 i.2.1.1 l.2.1.1);have j:=hid c;obtain ⟨at',ap,ac,am⟩:=a;obtain ⟨bt,bp,bc,bm⟩:=b;simp only [yQ,Rx.sl,Rx.rg] at *;have t:V.cell? (aa M 0)=some (tq at'):=cz d;have x:V.cell? (aa M 1)=some (sc ap am.length ac):=cz d;have v:V.cell? (aa (M+1) 0)=some (tq bt):=cz f;have s:V.cell? (aa (M+1) 1)=some (sc bp bm.length bc):=cz f;clear i l c d f k;go_enter func206,ntmps206
 by_cases ht:at'=bt
 ·have p:(at'.toList==bt.toList)=true:=zCS ht;have g:Hid (decide ((at',am)=(bt,bm))=decide (am=bm)):=by show _=_;rw [ht];simp
  clear ht;go_wp2_with fail;(try rw [hV]);refine n.o.mono ?_;rintro e u ⟨rfl,m⟩;have q:=hid (zA j.o j.o.size m);clear m
  generalize decide (am=bm)=R at *
  go_wp2_with fail
  go_ret;exact ⟨zH g.o.symm,q.o⟩
 have p:(at'.toList==bt.toList)=false:=tN ht;have g:Hid (decide ((at',am)=(bt,bm))=false):=by show _=_;rw [xa0];intro h;exact ht (xad Prod.fst h)
 clear ht;go_wp2_with fail;(try rw [hV]);go_ret;exact ⟨zH g.o.symm,j.o⟩
theorem zDZ (r:Rx) (c:Cx) (w:World) (H:r.at w) (J:CIn w c):CC 264 #[.agg (yQ r).toArray,.agg (xW c).toArray] w fun e h=>e=.returned (.bool (uX r.rg c.ch))/\Below w.heap.size w h:=by
 obtain ⟨n,u,t,C⟩:=vP w (yQ r).toArray (xW c).toArray 124 67;obtain ⟨V,hV⟩:=eE ((w.alloc (.cells (yQ r).toArray 124)).alloc (.cells (xW c).toArray 67));obtain ⟨M,hM⟩:=eE w.heap.size;rw [hV] at n u t C;rw [hM] at u t C
 have v:Hid (∀d,Bw V d->(CC 140 #[r.sl,sc c.wp c.wo.length c.wc] d fun e h=>e=.returned (.bool (zR r.tm (c.wo.map Fx.fld)))/\Bw d h)/\(CC 140 #[r.sl,sc c.ip c.io.length c.ic] d fun e h=>e=.returned (.bool (zR r.tm (c.io.map Fx.fld)))/\Bw d h)):=fun d l=>by
  have N:Bw w d:=zA n n.size l;have hr':=H.on N;have hc':=J.on N;exact ⟨jK _ _ r.tm c.wo d hr'.1 hr'.2.1 hc'.was hc'.wfit hc'.wcp.2,jK _ _ r.tm c.io d hr'.1 hr'.2.1 hc'.is hc'.ifit hc'.icp.2⟩
 have k:=hid n
 have K:Hid (∀d:World,Bw V d->(d.cell? (aa M 0)=some (tq r.typ)/\d.cell? (aa M 1)=some r.sl)/\d.cell? (aa (M+1) 0)=some (tq c.a)/\d.cell? (aa (M+1) 1)=some (tq c.b)/\d.cell? (aa (M+1) 2)=some (.bool c.wl)/\d.cell? (aa (M+1) 3)=some (sc c.wp c.wo.length c.wc)/\d.cell? (aa (M+1) 4)=some (.bool c.il)/\d.cell? (aa (M+1) 5)=some (sc c.ip c.io.length c.ic)):=fun d l=>by
  have L:=(l.block M (by omega)).trans u;have j:=(l.block (M+1) (by omega)).trans t;exact ⟨⟨by rw [zaC L];rfl,by rw [zaC L];rfl⟩,by rw [zaC j];rfl,by rw [zaC j];rfl,by rw [zaC j];rfl,by rw [zaC j];rfl,by rw [zaC j];rfl,by rw [zaC j];rfl⟩
 clear H J n u t C;obtain ⟨g,D,B,i⟩:=r;obtain ⟨ca,cb,wl,wp,wc,wo,il,ip,ic,io⟩:=c;have q:Hid (∀m R2,zR i (wo.map Fx.fld)=m->zR i (io.map Fx.fld)=R2->uX (⟨g,D,B,i⟩:Rx).rg (⟨ca,cb,wl,wp,wc,wo,il,ip,ic,io⟩:Cx).ch=(decide (g=ca)&&((wl&&m)||(il&&R2)))):=by rintro _ _ rfl rfl;rfl
 generalize uX (⟨g,D,B,i⟩:Rx).rg (⟨ca,cb,wl,wp,wc,wo,il,ip,ic,io⟩:Cx).ch=TT at *
 simp only [yQ,xW,Rx.sl] at *;obtain ⟨⟨X,S⟩,P,O,Z,Y,T,Q⟩:=K.o V (zaR _ _);go_enter func264,ntmps264
 by_cases ht:g=ca
 ·have W:(g.toList==ca.toList)=true:=zCS ht;have U:(ca.toList==g.toList)=true:=zCS ht.symm;obtain ⟨m,E⟩:=eE (zR i (wo.map Fx.fld));obtain ⟨R2,hR2⟩:=eE (zR i (io.map Fx.fld));have f:=hid (q.o m R2 E hR2);rw [xas ht] at f;rw [E,hR2] at v;clear ht E hR2 q;obtain ⟨HM1,HM2⟩:=v.o V (zaR _ _);have y:=hid HM1;have F:=hid HM2;have z:Hid (∀d,Bw V d->CC 140 #[sc D i.length B,sc ip io.length ic] d fun e h=>e=.returned (.bool R2)/\Bw d h):=fun d l=>(v.o d l).2
  clear HM1 HM2 v
  cases wl with
  | true =>
   go_wp2_with fail
   (try rw [hV]);refine y.o.mono ?_;rintro e G ⟨rfl,x⟩;have s:=hid (zA k.o k.o.size x);have I:=hid (z.o G x);obtain ⟨⟨X,S⟩,P,O,Z,Y,T,Q⟩:=K.o G x;clear x y F z
   cases m with
   | true =>
    go_wp2_with fail
    go_ret;exact ⟨zH f.o.symm,s.o⟩
   | false =>
   cases il with
   | true =>
    go_wp2_with fail
    refine I.o.mono ?_;rintro e R ⟨rfl,p⟩;have A:=hid (zA s.o s.o.size p);clear p I;go_wp2_with fail;go_ret;exact ⟨zH (by rw [f.o];grind),A.o⟩
   | false =>
   go_wp2_with fail
   go_ret;exact ⟨zH f.o.symm,s.o⟩
  | false =>
  cases il with
  | true =>
   go_wp2_with fail
   (try rw [hV]);refine F.o.mono ?_;rintro e R ⟨rfl,p⟩;have A:=hid (zA k.o k.o.size p);clear p y F z;go_wp2_with fail;go_ret;exact ⟨zH (by rw [f.o];grind),A.o⟩
  | false =>
  go_wp2_with fail
  (try rw [hV]);go_ret;exact ⟨zH f.o.symm,k.o⟩
 have W:(g.toList==ca.toList)=false:=tN ht;have U:(ca.toList==g.toList)=false:=tN (Ne.symm ht);have f:=hid (q.o _ _ rfl rfl);rw [xar ht] at f;clear ht q;go_wp2_with fail;(try rw [hV]);go_ret;exact ⟨zH f.o.symm,k.o⟩
theorem zFZ (f:Rx->Bool) (k:Nat) (lb:Array Value) (eg:∀args w,(callFunc k args).run prog w=.ok (.enter k args) w) (v:Value) (l:List Rx) (w:World) (hv:KRx.Is w v l) (hl:l.length<=9000000000000000000)
  (hk:∀(W:World) (x:Rx),Below w.heap.size w W->x∈l->CC k (#[.agg (yQ x).toArray]++lb) W fun e w'=>e=.returned (.bool (f x))/\Below W.heap.size W w'):CC 248 #[v,.func (.func k) #[] lb] w fun e w'=>(∃n:Int,e=.returned (.int .i64 n)/\decide (n≥0)=l.any f)/\Below w.heap.size w w':=by
 obtain ⟨p,cap,rfl,hd⟩:=hv;have HD:=hid hd;have HK:=hid hk;go_enter func248,ntmps248;go_wp2_with fail
 go_loopg [8] l.length (fun gg vi wr=>∃i:Nat,vi=ii i/\i<=l.length/\l.length-i<=gg/\Hid (Bw w wr/\∀x∈l.take i,f x=false))
 case atStart=>exact ⟨0,rfl,by omega,by omega,zaR _ _,fun x hx=>by simp at hx⟩
 obtain ⟨i,rfl,hi,hgk,HI⟩:=hrel
 by_cases hlt:i<l.length
 ·have hltz:(i:Int)<(l.length:Int):=by omega
  have hiz:(0:Int)<=i:=by omega
  obtain ⟨b1,o1,rfl,k1⟩:∃b off,p=some (aa b off)/\KRx.At w b off l:=by
   rcases HD.o with h|h
   ·grind
   exact h
  obtain ⟨y0,y1⟩:=zEm (zC.at_kept k1 HI.o.1) i hlt;have hmem:l[i]∈l:=zaN hlt;have htk:l.take (i+1)=l.take i++[l[i]]:=zaK hlt;have HC:=hid (HK.o wr l[i] HI.o.1 hmem)
  have HNO:Hid (f l[i]=false->∀x∈l.take (i+1),f x=false):=fun h x hx=>by
   rw [htk] at hx
   rcases List.mem_append.1 hx with hx|hx
   ·exact HI.o.2 x hx
   grind
  have HYES:Hid (f l[i]=true->l.any f=true):=fun h=>List.any_eq_true.2 ⟨_,hmem,h⟩
  have HB:=hid HI.o.1
  generalize l[i]=x at *
  cases hq:f x with
  | true =>
   rw [hq] at HC;have HY:=hid (HYES.o hq);simp only [yQ,Rx.sl] at *;go_wp2_with (go_at_fn k;refine HC.o.mono ?_;rintro e w1 ⟨rfl,hb1⟩);go_ret;exact ⟨⟨i,rfl,by rw [HY.o];grind⟩,zA HB.o HB.o.size hb1⟩
  | false =>
  rw [hq] at HC;have HN:=hid (HNO.o hq);simp only [yQ,Rx.sl] at *;go_wp2_with (go_at_fn k;refine HC.o.mono ?_;rintro e w1 ⟨rfl,hb1⟩);have HB1:=hid (zA HB.o HB.o.size hb1);go_roundg (l.length-(i+1))
  case measure=>omega
  exact ⟨i+1,by go_num,by omega,by omega,HB1.o,HN.o⟩
 have hltz:¬ (i:Int)<(l.length:Int):=by omega
 have hti:l.take i=l:=xaj (by omega);rw [hti] at HI;go_wp2_with fail;go_ret;refine ⟨⟨-1,rfl,?_⟩,HI.o.1⟩
 have:l.any f=false:=by
  rw [xbz];exact fun x hx=>by rw [HI.o.2 x hx];simp
 grind
theorem bT (f:Rx->Bool) (k:Nat) (lb:Array Value) (i:∀args w,(callFunc k args).run prog w=.ok (.enter k args) w) (v:Value) (l:List Rx) (w:World) (b:KRx.Is w v l) (d:l.length<=9000000000000000000)
  (hk:∀(W:World) (x:Rx),Below w.heap.size w W->x∈l->CC k (#[.agg (yQ x).toArray]++lb) W fun e a=>e=.returned (.bool (f x))/\Below W.heap.size W a):CC 204 #[v,.func (.func k) #[] lb] w fun e a=>e=.returned (.bool (l.any f))/\Below w.heap.size w a:=by
 have g:=hid (zFZ f k lb i v l w b d hk);clear b hk;go_enter func204,ntmps204;go_wp2_with fail;refine g.o.mono ?_;rintro e m ⟨⟨n,rfl,c⟩,j⟩;have h:=hid c;clear c;go_wp2_with fail;go_ret;exact ⟨zH h.o,j⟩
theorem zDf (f:Cx->Bool) (k:Nat) (lb:Array Value) (eg:∀args w,(callFunc k args).run prog w=.ok (.enter k args) w) (v:Value) (l:List Cx) (w:World) (hv:KCx.Is w v l) (hl:l.length<=9000000000000000000)
  (hk:∀(W:World) (x:Cx),Below w.heap.size w W->x∈l->CC k (#[.agg (xW x).toArray]++lb) W fun e w'=>e=.returned (.bool (f x))/\Below W.heap.size W w'):CC 261 #[v,.func (.func k) #[] lb] w fun e w'=>(∃n:Int,e=.returned (.int .i64 n)/\decide (n≥0)=l.any f)/\Below w.heap.size w w':=by
 obtain ⟨p,cap,rfl,hd⟩:=hv;have HD:=hid hd;have HK:=hid hk;go_enter func261,ntmps261;go_wp2_with fail
 go_loopg [8] l.length (fun gg vi wr=>∃i:Nat,vi=ii i/\i<=l.length/\l.length-i<=gg/\Hid (Bw w wr/\∀x∈l.take i,f x=false))
 case atStart=>exact ⟨0,rfl,by omega,by omega,zaR _ _,fun x hx=>by simp at hx⟩
 obtain ⟨i,rfl,hi,hgk,HI⟩:=hrel
 by_cases hlt:i<l.length
 ·have hltz:(i:Int)<(l.length:Int):=by omega
  have hiz:(0:Int)<=i:=by omega
  obtain ⟨b1,o1,rfl,k1⟩:∃b off,p=some (aa b off)/\KCx.At w b off l:=by
   rcases HD.o with h|h
   ·grind
   exact h
  obtain ⟨y0,y1,y2,y3,y4,y5⟩:=zJM (zC.at_kept k1 HI.o.1) i hlt;have hmem:l[i]∈l:=zaN hlt;have htk:l.take (i+1)=l.take i++[l[i]]:=zaK hlt;have HC:=hid (HK.o wr l[i] HI.o.1 hmem)
  have HNO:Hid (f l[i]=false->∀x∈l.take (i+1),f x=false):=fun h x hx=>by
   rw [htk] at hx
   rcases List.mem_append.1 hx with hx|hx
   ·exact HI.o.2 x hx
   grind
  have HYES:Hid (f l[i]=true->l.any f=true):=fun h=>List.any_eq_true.2 ⟨_,hmem,h⟩
  have HB:=hid HI.o.1
  generalize l[i]=x at *
  cases hq:f x with
  | true =>
   rw [hq] at HC;have HY:=hid (HYES.o hq);simp only [xW] at *;go_wp2_with (go_at_fn k;refine HC.o.mono ?_;rintro e w1 ⟨rfl,hb1⟩);go_ret;exact ⟨⟨i,rfl,by rw [HY.o];grind⟩,zA HB.o HB.o.size hb1⟩
  | false =>
  rw [hq] at HC;have HN:=hid (HNO.o hq);simp only [xW] at *;go_wp2_with (go_at_fn k;refine HC.o.mono ?_;rintro e w1 ⟨rfl,hb1⟩);have HB1:=hid (zA HB.o HB.o.size hb1);go_roundg (l.length-(i+1))
  case measure=>omega
  exact ⟨i+1,by go_num,by omega,by omega,HB1.o,HN.o⟩
 have hltz:¬ (i:Int)<(l.length:Int):=by omega
 have hti:l.take i=l:=xaj (by omega);rw [hti] at HI;go_wp2_with fail;go_ret;refine ⟨⟨-1,rfl,?_⟩,HI.o.1⟩
 have:l.any f=false:=by
  rw [xbz];exact fun x hx=>by rw [HI.o.2 x hx];simp
 grind
theorem zDe (f:Cx->Bool) (k:Nat) (lb:Array Value) (i:∀args w,(callFunc k args).run prog w=.ok (.enter k args) w) (v:Value) (l:List Cx) (w:World) (b:KCx.Is w v l) (d:l.length<=9000000000000000000)
  (hk:∀(W:World) (x:Cx),Below w.heap.size w W->x∈l->CC k (#[.agg (xW x).toArray]++lb) W fun e a=>e=.returned (.bool (f x))/\Below W.heap.size W a):CC 211 #[v,.func (.func k) #[] lb] w fun e a=>e=.returned (.bool (l.any f))/\Below w.heap.size w a:=by
 have g:=hid (zDf f k lb i v l w b d hk);clear b hk;go_enter func211,ntmps211;go_wp2_with fail;refine g.o.mono ?_;rintro e m ⟨⟨n,rfl,c⟩,j⟩;have h:=hid c;clear c;go_wp2_with fail;go_ret;exact ⟨zH h.o,j⟩
theorem zHJ:∀args w,(callFunc 205 args).run prog w=.ok (.enter 205 args) w:=xaR func205 (by kernel_rfl) rfl
theorem zPE (r x:Rx) (M:Nat) (w:World) (d:w.heap[M]? = some (.cells (yQ r).toArray 124 (0,0))) (n:r.at w) (j:x.at w):CC 205 #[.agg (yQ x).toArray,.pointer (some ⟨M,0,none⟩)] w fun e l=>e=.returned (.bool (decide (x.rg=r.rg)))/\Below w.heap.size w l:=by
 obtain ⟨a,b,m⟩:=tV w (yQ x).toArray 124;obtain ⟨V,hV⟩:=eE (w.alloc (.cells (yQ x).toArray 124));rw [hV] at a b m;have i:M<w.heap.size:=(gA d).1;have g:=(a.block M i).trans d;have h:=hid (zFb x r V (j.on a) (n.on a));have f:=hid a
 generalize decide (x.rg=r.rg)=R at *
 obtain ⟨K,c⟩:=eE w.heap.size;rw [c] at b;obtain ⟨xt,xp,xc,xm⟩:=x;obtain ⟨rt,rp,rc,rm⟩:=r;simp only [yQ,Rx.sl] at *;have q:V.cell? (aa K 0)=some (tq xt):=cz b;have t:V.cell? (aa K 1)=some (sc xp xm.length xc):=cz b;have s:V.cell? (aa M 0)=some (tq rt):=cz g;have p:V.cell? (aa M 1)=some (sc rp rm.length rc):=cz g;go_enter func205,ntmps205;go_wp2_with fail;(try rw [hV]);(try rw [c]);refine h.o.mono ?_;rintro e w1 ⟨rfl,hb1⟩;have k:=hid (zA f.o f.o.size hb1);go_wp2_with fail;go_ret;exact ⟨rfl,k.o⟩
theorem zCL (v:Value) (l:List Rx) (r:Rx) (w:World) (h:KRx.Is w v l) (g:l.length<=9000000000000000000) (i:∀x∈l,x.at w) (p:r.at w):CC 152 #[v,.agg (yQ r).toArray] w fun e n=>e=.returned (.bool ((l.map Rx.rg).any fun x=>decide (x=r.rg)))/\Below w.heap.size w n:=by
 obtain ⟨a,b,f⟩:=tV w (yQ r).toArray 124;obtain ⟨V,hV⟩:=eE (w.alloc (.cells (yQ r).toArray 124));obtain ⟨M,hM⟩:=eE w.heap.size;rw [hV] at a b f;rw [hM] at b f;have q:=hid (bT (fun x=>decide (x.rg=r.rg)) 205 #[jp M] zHJ v l V (zC.is_kept h a) g (fun W x c k=>zPE r x M W ((c.block M (by omega)).trans b) ((p.on a).on c) (((i x k).on a).on c)));have j:Hid (l.any (fun x=>decide (x.rg=r.rg))=(l.map Rx.rg).any fun x=>decide (x=r.rg)):=by show _=_;rw [List.any_map];rfl
 have d:=hid a
 generalize l.any (fun x=>decide (x.rg=r.rg))=R at *
 obtain ⟨s,y,u,t⟩:=r;simp only [yQ,Rx.sl] at *;go_enter func152,ntmps152;go_wp2_with fail;(try rw [hV]);(try rw [hM]);refine q.o.mono ?_;rintro e w1 ⟨rfl,hb1⟩;have m:=hid (zA d.o d.o.size hb1);go_wp2_with fail;go_ret;exact ⟨zH j.o,m.o⟩
theorem zFd:(prog.info? 36).map (fun i=>(i.zero,i.size,i.bytes))=some (some (.agg #[.string ⟨#[]⟩,.string ⟨#[]⟩]),2,32):=by kernel_rfl
theorem zH1 (n:Nat) (w:World) (o:0<n) (q:n * 32<=140737488355328):∃(g a:Nat) (b:World),(∀c,(Builtin.append_ #[46,3] c #[.slice none 0 0,.int .i64 (n:Int)]).run prog w=.ok (.slice (some ⟨g,0,none⟩) n a) b)/\n<=a/\a<=maxLen/\KK.Own w.heap.size b (.slice (some ⟨g,0,none⟩) 0 a) []/\Below w.heap.size w b:=by
 obtain ⟨d,j,k,p,r⟩:=xaL zFd;have l:(Builtin.firstCells d.size 0 (sc none 0 0)).run prog w.drew=.ok ([]:List Value).toArray w.drew:=run_firstCells_none w.drew d.size 0 0 0;have h:=fun c=>Lib.run_append_grow_zeros (P:=prog) w 46 3 c 36 d _ .i64 .i64 underlying46 underlying3 j k none 0 0 [] l n o (by omega) (by omega) (by omega) (by grind) (growslice_fits (by omega) (by grind))
 simp only [xaJ] at h;have i:=grownCap_ge w n 0 36;have f:=grownCap_le_maxLen w n 0 36 (by unfold maxLen;omega)
 generalize grownCap w n 0 36=G at *
 refine ⟨_,_,_,h,i,f,?_,?_⟩
 ·refine xbO w.drew _ G (zaL _) f ?_
  have e:∀m,(Builtin.zeroCells (Value.agg #[tq ⟨#[]⟩,tq ⟨#[]⟩]).cells m).size=m * 2:=fun m=>by
   have:=xad List.length (Z.zero_cells (tq ⟨#[]⟩) m)
   simpa [Value.cells] using this
  rw [Array.size_append,Array.size_append,e,e];show 0+n * 2+(G-n) * 2=G * 2;omega
 exact ((zaR _ w).drew).alloc (zaL _) _
theorem cQ {ops:Array Oper} {rest:List Oper} {o:Oper} {a:Act} {Q:Exit->Act->World->Prop} (w:World) (c:o.guard=none) (s x:Operand) (t b:TypeId)
  (ho:o.op=.call { callee:=.builtin .append,args:=#[s,x],argTypes:=#[t,b] }) (vs vx v':Value) (w':World) (hs:a.eval s=vs) (hx:a.eval x=vx) (hrun:∀ty,(Builtin.append_ #[t,b] ty #[vs,vx]).run prog w=.ok v' w')
  (h:wpList prog ops Q rest (a.put o.dst v') w'):wpList prog ops Q (o::rest) a w:=by
 refine wpList_plain c fun K d=>?_
 unfold Oper.wp;simp [execOp,ho,resolve,invoke,builtin,hs,hx,hrun,Result.andThen];exact d _ _ h
theorem zJL (n:Nat) (w:World) (f:n * 32<=140737488355328):CC 203 #[.slice none 0 0,.int .i64 (n:Int)] w fun e a=>(∃u,e=.returned u/\KK.Own w.heap.size a u [])/\Below w.heap.size w a:=by
 by_cases h0:n=0
 ·subst h0;go_enter func203,ntmps203;go_wp2_with fail;go_ret;exact ⟨⟨_,rfl,KK.own_nil _ _⟩,zaR _ _⟩
 obtain ⟨g,q,a,b,r,h,c,i⟩:=zH1 n w (by omega) f;have j:=hid c;have k:=hid i;have l:¬ ((n:Int)<0):=by omega
 have m:(n:Int) > 0:=by omega
 have p:wrap64 (n:Int)=n:=by unfold wrap64;omega
 unfold maxLen at h;have d:=hid b;go_enter func203,ntmps203;go_wp2_with (at_builtin;refine cQ _ rfl _ _ 46 3 rfl _ _ _ _ rfl rfl d.o ?_);go_ret;exact ⟨⟨_,rfl,j.o⟩,k.o⟩
theorem zFV (B : Nat) (d f : Option Addr) (l i : Nat) (a b : List Ky) (w : World) (F : w.heap[B]? = some (.cells #[.slice d a.length l, .slice f b.length i] 46 (0, 0)))
    (ha : KK.Is w (.slice d a.length l) a) (hb : KK.Is w (.slice f b.length i) b) (hl : (a.length + b.length) * 32 <= 140737488355328):CC 151 #[.slice (some ⟨B,0,none⟩) 2 2] w fun e U => (∃ u, e = .returned u /\ KK.Own w.heap.size U u (a ++ b)) /\ Below w.heap.size w U := by
  obtain ⟨Q, X, G, L, P⟩ := xaL zFd;have x := hid X;have W : B < w.z := (gA F).1
  have s : Hid (∀ g, Bw w g -> (g.cell? (aa B 0) = some (sc d a.length l) /\ g.cell? (aa B 1) = some (sc f b.length i)) /\ KK.Is g (sc d a.length l) a /\ KK.Is g (sc f b.length i) b) := fun g r => by
    have c := (r.block B W).trans F;exact ⟨⟨by rw [zaC c]; rfl, by rw [zaC c]; rfl⟩, zC.is_kept ha r, zC.is_kept hb r⟩
  obtain ⟨n, Z⟩ := eE (a.length + b.length);have q1 : wrap64 (a.length : Int) = a.length := by unfold wrap64; omega
  have q2 : wrap64 ((a.length : Int) + (b.length : Int)) = (n : Int) := by unfold wrap64; omega
  have q3 : ¬ ((a.length : Int) < 0) := by omega
  have q4 : ¬ ((n : Int) < 0) := by omega
  have D := zJL n w (by omega);rw [show (n : Int) = (a.length : Int) + (b.length : Int) by omega] at D;have HG := hid D;obtain ⟨⟨N, K⟩, _, _⟩ := s.o w (zaR _ _);have R := hid Z;go_enter func151, ntmps151;go_wp2_with fail;refine xaD 3 ?_;rw [xav];go_wp2_with fail;rw [xav];go_wp2_with fail;rw [xav];go_wp2_with fail;refine HG.o.mono ?_;rintro e w1 ⟨⟨u1, rfl, ho1⟩, hb1⟩;obtain ⟨⟨N, K⟩, ha1, hb1'⟩ := s.o w1 hb1
  have ac : Hid (a.length = 0 ∨ ∃ ad, d = some ad /\ ∀ j u, (KK.cells a)[j]? = some u -> w1.cell? (ad.add j) = some u) := by
    obtain ⟨Y, c9, t, h⟩ := ha1;injection t with c _ _
    subst c;exact zC.src h
  have H := hid ho1;have ab := hid hb1;have y := hb1.size;go_wp2_with fail;refine xaD 3 ?_;rw [xav]
  go_wp2_with (at_builtin; refine tI _ rfl _ _ 46 rfl w.z 36 Q _ 2 32 underlying46 x.o G L P rfl (by decide) _ 0 [] rfl H.o d a.length l (KK.cells a) rfl (KK.cells_len a) ac.o (KK.cells_ones a) (by unfold maxLen; have := R.o; omega) (by omega) y ?_
               intro C p I A;have m := qK ab.o A (fun k q => (zaW (show w1.ownsRow w.z KK.T KK.k u1 0 (KK.cells []) from H.o) k q).1) y;obtain ⟨⟨N, K⟩, ah, S⟩ := s.o p m
               have ag : Hid (b.length = 0 ∨ ∃ ad, f = some ad /\ ∀ j u, (KK.cells b)[j]? = some u -> p.cell? (ad.add j) = some u) := by
                 obtain ⟨Y, c9, t, h⟩ := S;injection t with c _ _
                 subst c;exact zC.src h
               have E : Hid (KK.Own w.z p C a) := by
                 have := I;rw [xaJ, xbe] at this;exact this
               have V := hid m;have v := m.size;clear I A m ah S)
  rw [xav]
  go_wp2_with (at_builtin; refine tI _ rfl _ _ 46 rfl w.z 36 Q _ 2 32 underlying46 x.o G L P rfl (by decide) _ a.length (KK.cells a) rfl E.o f b.length i (KK.cells b) rfl (KK.cells_len b) ag.o (KK.cells_ones b) (by unfold maxLen; have := R.o; omega) (by omega) v ?_
               intro u3 M O J;have ae := hid (qK V.o J (fun k q => (zaW (show p.ownsRow w.z KK.T KK.k C a.length (KK.cells a) from E.o) k q).1) v)
               have af : Hid (KK.Own w.z M u3 (a ++ b)) := by
                 show M.ownsRow _ _ _ _ _ _
                 rw [xah, KK.cells_append];exact O
               clear O J)
  rw [xav];go_wp2_with fail;go_ret;exact ⟨⟨_, rfl, af.o⟩, ae.o⟩
section
variable {l:List Rg}
theorem cB (B:Nat) (g f:Option Addr) (i j:Nat) (a b:List Ky) (w:World) (v:w.heap[B]? = some (.cells #[.slice g a.length i,.slice f b.length j] 46 (0,0)))
  (ha:KK.Is w (.slice g a.length i) a) (hb:KK.Is w (.slice f b.length j) b) (hl:a.length+b.length<=4398046511104):CC 99 #[.slice (some ⟨B,0,none⟩) 2 2] w fun e d=>bQ w (wM (a++b)) e d:=by
 have x:=hid (zFV B g f i j a b w v ha hb (by omega));have s:Hid (∀(u:Value) (c:World),KK.Own w.z c u (a++b)->CC 150 #[u] c fun e d=>∃u',e=.returned u'/\KK.Own c.z d u' (wM (a++b))/\Bw c d):=fun u c h=>zE8 _ u _ c h (by rw [xah];omega)
 generalize wM (a++b)=R at *
 generalize a++b=L at *
 go_enter func99,ntmps99
 go_wp2_with fail
 refine x.o.mono ?_;rintro e c ⟨⟨p,rfl,n⟩,k⟩;have y:=hid (s.o p c n);have m:=hid k;have r:=k.size;go_wp2_with fail;refine y.o.mono ?_;rintro e w2 ⟨u2,rfl,ho2,hb2⟩;have t:=hid (zC.own_weak ho2 r);have q:=hid (zA m.o m.o.size hb2);go_wp2_with fail;go_ret;exact ⟨_,rfl,t.o,q.o⟩
def zRx (w:World) (acc:List Rg) (p:Option Addr) (c:Nat) (L:List Rx) (wr:World):Prop:=jL w.heap.size w (.slice p L.length c) L wr/\L.map Rx.rg=acc
theorem zKE {r:Rg} (h:(l.any fun x=>decide (x=r))=true):wZ l r=l:=xae h
theorem zHB {r:Rg} (h:(l.any fun x=>decide (x=r))=false):wZ l r=l++[r]:=xag (by rw [h];simp)
theorem zGc (l:List Rg) (a:List Rg):(l.foldl wZ a).length<=a.length+l.length:=zLz l a
theorem zD2 (B : Nat) (I N : Option Addr) (ca J : Nat) (a b : List Rx) (w : World) (Y : w.heap[B]? = some (.cells #[.slice I a.length ca, .slice N b.length J] 47 (0, 0)))
    (ha : KRx.Is w (.slice I a.length ca) a) (hb : KRx.Is w (.slice N b.length J) b) (hae : ∀ r ∈ a, r.at w) (hbe : ∀ r ∈ b, r.at w) (hl : a.length + b.length < 3000000000000):CC 100 #[.slice (some ⟨B,0,none⟩) 2 2] w fun e T => zC2 w ((b.map Rx.rg).foldl wZ ((a.map Rx.rg).foldl wZ [])) e T := by
  obtain ⟨i0, ag, ar, ax, bh⟩ := xaL zCd;have bc := hid ag;clear ag;have ap : B < w.z := (gA Y).1;obtain ⟨ps, hps⟩ : ∃ ps : Nat -> List Rx, ps = fun j => if j = 0 then a else b := ⟨_, rfl⟩
  obtain ⟨t, G⟩ : ∃ t : Nat -> Option Addr, t = fun j => if j = 0 then I else N := ⟨_, rfl⟩
  obtain ⟨C, U⟩ : ∃ C : Nat -> Nat, C = fun j => if j = 0 then ca else J := ⟨_, rfl⟩
  have af : Hid (∀ c, Bw w c -> ∀ j : Nat, j < 2 -> c.cell? (aa B j) = some (sc (t j) (ps j).length (C j)) /\ KRx.Is c (sc (t j) (ps j).length (C j)) (ps j) /\ ∀ r ∈ ps j, r.at c) := fun c k j hj => by
    have n := (k.block B ap).trans Y
    rcases j with _ | _ | j
    · rw [hps, G, U]
      exact ⟨by rw [zaC n]; rfl, zC.is_kept ha k, fun r M => (hae r M).on k⟩
    · rw [hps, G, U]
      exact ⟨by rw [zaC n]; rfl, zC.is_kept hb k, fun r M => (hbe r M).on k⟩
    omega
  obtain ⟨m, p⟩ : ∃ m : Nat -> List Rg, m = fun j => if j = 0 then [] else if j = 1 then (a.map Rx.rg).foldl wZ [] else (b.map Rx.rg).foldl wZ ((a.map Rx.rg).foldl wZ []) := ⟨_, rfl⟩
  have bi : Hid (m 0 = []) := by show _ = _; rw [p]; rfl
  have aw : Hid (m 2 = (b.map Rx.rg).foldl wZ ((a.map Rx.rg).foldl wZ [])) := by show _ = _; rw [p]; rfl
  have bf : Hid (∀ j, j < 2 -> m (j + 1) = ((ps j).map Rx.rg).foldl wZ (m j)) := fun j hj => by
    rcases j with _ | _ | j
    · rw [p, hps]; rfl
    · rw [p, hps]; rfl
    omega
  have bj : Hid (∀ j, j < 2 -> (m j).length + (ps j).length < 3000000000000) := fun j hj => by
    rcases j with _ | _ | j
    · rw [p, hps]
      show 0 + a.length < _
      omega
    · rw [p, hps]
      have := zGc (a.map Rx.rg) [];rw [zaM, xbi] at this;show ((a.map Rx.rg).foldl wZ []).length + b.length < _;omega
    omega
  clear ha hb Y hae hbe hps G U p hl;rw [<- aw.o];go_enter func100, ntmps100;go_wp2_with fail
  go_loopg [3, 10] 2 (fun gg W vj wr => ∃ (j : Nat) (L : List Rx) (g : Option Addr) (f : Nat), W = sc g L.length f /\ vj = ii j /\ j <= 2 /\ 2 - j <= gg /\ Hid (zRx w (m j) g f L wr))
  case atStart => exact ⟨0, [], none, 0, rfl, rfl, by omega, by omega, jL.nil (zaR _ _) (zaL _), bi.o.symm⟩
  obtain ⟨j, L, g, f, rfl, rfl, hj, bp, d⟩ := hrel
  by_cases hlt : j < 2
  · have bk : (j : Int) < 2 := by omega
    have bo : (0 : Int) <= j := by omega
    have v : Bw w wr := d.o.1.row.bel;obtain ⟨x0, ay, au⟩ := af.o wr v j hlt;have HX : Hid (∀ c, Bw w c -> KRx.Is c (sc (t j) (ps j).length (C j)) (ps j) /\ ∀ r ∈ ps j, r.at c) := fun c k => ((af.o c k j hlt).2)
    have ak := hid (bf.o j hlt);have bd := bj.o j hlt;obtain ⟨l, F⟩ := eE (ps j);obtain ⟨q, hq⟩ := eE (t j);obtain ⟨qc, hqc⟩ := eE (C j);obtain ⟨ac, hac⟩ := eE (m j);rw [F, hq, hqc] at HX x0;rw [F, hac] at ak;rw [F, hac] at bd;rw [hac] at d;clear ay au v F hq hqc hac;go_wp2_with fail;clear x0
    go_loopg [3, 16] l.length (fun gg W vi wr => ∃ (i : Nat) (L : List Rx) (g : Option Addr) (f : Nat), W = sc g L.length f /\ vi = ii i /\ i <= l.length /\ l.length - i <= gg /\ Hid (zRx w (((l.take i).map Rx.rg).foldl wZ ac) g f L wr))
    case atStart => exact ⟨0, L, g, f, rfl, rfl, by omega, by omega, d.o⟩
    clear d;obtain ⟨i, L, g, f, rfl, rfl, hi, bn, d⟩ := hrel
    by_cases hli : i < l.length
    · have aq : (i : Int) < (l.length : Int) := by omega
      have bm : (0 : Int) <= i := by omega
      have v : Bw w wr := d.o.1.row.bel
      obtain ⟨b1, o1, rfl, k1⟩ : ∃ b off, q = some (aa b off) /\ KRx.At wr b off l := by
        obtain ⟨p9, c9, he, h⟩ := (HX.o wr v).1;injection he with n _ _
        subst n
        rcases h with h | h
        · rw [h] at hli; simp at hli
        exact h
      obtain ⟨y0, y1⟩ := zEm k1 i hli
      have H : Hid (L.length <= ac.length + i) := by
        have h1 := xad List.length d.o.2;have h2 := zGc ((l.take i).map Rx.rg) ac;rw [zaM] at h1 h2;rw [xa2] at h2;show _ <= _;omega
      have am : Hid (((l.take (i + 1)).map Rx.rg).foldl wZ ac = wZ (L.map Rx.rg) (l[i]).rg) := by
        show _ = _
        rw [zaK hli, xak, List.foldl_append, <- d.o.2];rfl
      have K := (HX.o wr v).2 _ (zaN hli)
      generalize l[i] = x at *
      obtain ⟨V, E⟩ := eE (wr.alloc (.cells #[tq x.typ, x.sl] 124));have Z : Bw wr V := by rw [<- E]; exact zaQ
      obtain ⟨Q, hQ⟩ := eE wr.z;have ab : V.heap[Q]? = some (oc #[tq x.typ, x.sl] 124) := by rw [<- E, <- hQ]; exact xab wr _
      have av : Q < V.z := (gA ab).1;have S := K.on Z;have u := hid (d.o.1.on Z);have D := hid (zCL (sc g L.length f) L x V u.o.row.is (by have := H.o; omega) u.o.at S)
      have ae : Hid (∀ c, Bw V c -> (c.cell? (aa Q 0) = some (tq x.typ) /\ c.cell? (aa Q 1) = some x.sl) /\ CC 153 #[.agg (yQ x).toArray] c fun e T => zFG c x e T) := fun c k => by
        have n := (k.block Q av).trans ab;exact ⟨⟨by rw [zaC n]; rfl, by rw [zaC n]; rfl⟩, bM x c (S.on k)⟩
      obtain ⟨⟨X, O⟩, _⟩ := ae.o V (zaR _ _);have HF := hid K.2;have bl := hid d.o.2;obtain ⟨R, hR⟩ := eE (((L.map Rx.rg).any fun y => decide (y = x.rg)));rw [hR] at D;have HR := hid hR;obtain ⟨xt, xp, xc, xm⟩ := x;simp only [Rx.sl, yQ] at *;clear k1 v Z K S d ab hR;go_upto_region 8 with fail
      try rw [hQ];try rw [E];clear E y0 y1
      cases R with
      | true =>
        have P := hid (zKE HR.o);go_wp2_with fail;refine D.o.mono ?_;rintro e w1 ⟨rfl, A⟩;have s := hid (u.o.on A);clear A D u X O;go_wp2_with fail;go_roundg (l.length - (i + 1))
        case measure => omega
        exact ⟨i + 1, L, g, f, rfl, by go_num, by omega, by omega, s.o, by rw [am.o]; exact P.o.symm⟩
      | false =>
      have P := hid (zHB HR.o);go_wp2_with fail;refine D.o.mono ?_;rintro e w1 ⟨rfl, A⟩;obtain ⟨⟨X, O⟩, hown⟩ := ae.o w1 A;have HO := hid hown;have s := hid (u.o.on A);clear A D u hown ae;go_wp2_with fail;clear X O;refine HO.o.mono ?_;rintro e w2 ⟨p1, c1, rfl, ho2, hb2⟩;have al := s.o.on hb2;have ai := s.o.fresh (x := ⟨xt, p1, c1, xm⟩) ho2;have an := s.o.row.base;simp only at ho2 hb2;obtain ⟨W1, hW1⟩ := eE (w2.alloc (.cells #[tq xt, sc p1 xm.length c1] 124));have ad : Bw w2 W1 := by rw [<- hW1]; exact zaQ
      have ba : Hid (W1.heap[w2.z]? = some (oc #[tq xt, sc p1 xm.length c1] 124)) := by rw [<- hW1]; exact xab w2 _
      have ao := hid (al.on ad);have bg : Hid (KM.Own w.z W1 (sc p1 xm.length c1) xm) := zC.own_weak (zC.own_on ho2 ad) an;have az := hid ai;clear al ai an ho2 hb2 ad HO s
      go_wp2_with (at_builtin; refine xG KRx rfl _ _ 47 rfl i0 _ 40 underlying47 bc.o ar ax bh rfl w.z w _ L rfl ao.o.row ⟨xt, p1, c1, xm⟩ _ _ _ rfl rfl _ _ ba.o (by unfold maxLen; have := H.o; omega) (by have := H.o; omega) ?_
                   intro g3 c3 w3 aj ah _;have be := hid (ao.o.push (x := ⟨xt, p1, c1, xm⟩) bg.o HF.o az.o aj ah);clear aj ah)
      go_roundg (l.length - (i + 1))
      case measure => omega
      exact ⟨i + 1, L ++ [⟨xt, p1, c1, xm⟩], some (aa g3 0), c3, by rw [xah]; rfl, by go_num, by omega, by omega, by rw [xah]; exact be.o, by rw [am.o, xak]; exact P.o.symm⟩
    have aq : ¬ (i : Int) < (l.length : Int) := by omega
    have bb : l.take i = l := xaj (by omega);rw [bb] at d;go_wp2_with fail;go_roundg (2 - (j + 1))
    case measure => omega
    exact ⟨j + 1, L, g, f, rfl, by go_num, by omega, by omega, d.o.1, by rw [ak.o]; exact d.o.2⟩
  have bk : ¬ (j : Int) < 2 := by omega
  obtain rfl : j = 2 := by omega
  go_wp2_with fail
  go_ret;exact ⟨g, f, L, rfl, d.o.1, d.o.2⟩
end
theorem zRV {w:World} {B:Nat} {a b:ByteArray} {t:TypeId} (h:w.heap[B]? = some (.cells #[.string a,.string b] t (0,0))):KK.Is w (.slice (some ⟨B,0,none⟩) 1 1) [(a,b)]:=by
 refine ⟨_,_,rfl,xaf ⟨_,_,rfl,fun i hi j u c=>?_⟩⟩;have hi':i=0:=by simpa using hi
 subst hi';have hj:j<2:=(gL c).1;rw [zaC h]
 rcases j with _|_|j
 all_goals first|exact c|omega
theorem zIu (m:Mx) (k:Ky) (w:World) (hm:MIn w m) (U:zN3 m):CC 125 #[.agg (xE m).toArray,.agg #[.string k.1,.string k.2]] w fun e q=>mC w (kA m.mk' k) e q:=by
 obtain ⟨V,Y⟩:∃V,((w.alloc (.cells (xE m).toArray 49)).alloc (.cells #[tq k.1,tq k.2] 36)).alloc (.cells #[sc none 0 0,sc none 0 0] 49)=V:=⟨_,rfl⟩;obtain ⟨M,hM⟩:∃M,w.heap.size=M:=⟨_,rfl⟩;obtain ⟨hbV,h1,h2,A,hs⟩:=zBe w _ _ _ _ _ _ V Y;rw [hM] at h1 h2 A hs
 have t:Hid (∀a:World,(∀b,b<M+2->a.heap[b]? = V.heap[b]?)->(a.cell? (aa M 0)=some m.ksl/\a.cell? (aa M 1)=some m.rsl)/\a.cell? (aa (M+1) 0)=some (tq k.1)/\a.cell? (aa (M+1) 1)=some (tq k.2)):=fun a j=>by
  have G:=(j M (by omega)).trans h1;have D:=(j (M+1) (by omega)).trans h2;exact ⟨⟨by rw [zaC G];rfl,by rw [zaC G];rfl⟩,by rw [zaC D];rfl,by rw [zaC D];rfl⟩
 have ai:Hid (∀a:World,Below V.heap.size V a->(a.cell? (aa (M+2) 0)=some (sc none 0 0)/\a.cell? (aa (M+2) 1)=some (sc none 0 0))/\a.frozen? (aa (M+2) 0)=false/\a.frozen? (aa (M+2) 1)=false):=fun a j=>by
  have s:=(j.block (M+2) (by omega)).trans A;exact ⟨⟨by rw [zaC s];rfl,by rw [zaC s];rfl⟩,zaF s 0,zaF s 1⟩
 have O:Hid (∀a,Below V.heap.size V a->MIn a m):=fun a j=>hm.on (zA hbV hbV.size j)
 have ag:Hid (∀a,Below V.heap.size V a->Below w.heap.size w a):=fun a j=>zA hbV hbV.size j
 have aq:=U.1;have ar:=U.2;have ac:Hid (kA m.mk' k=(wM (m.ks++[k]),m.rs.map Rx.rg)):=by show _=_;rw [zIf];rfl
 obtain ⟨d,C⟩:∃d,V.drew.alloc (.cells #[tq k.1,tq k.2] 36)=d:=⟨_,rfl⟩;have am:Below V.drew.heap.size V.drew d:=by rw [<-C];exact zaQ
 have ah:d.heap[M+3]? = some (.cells #[tq k.1,tq k.2] 36 (0,0)):=by rw [<-C,<-hs];exact xab V.drew _
 have Z:d.heap.size=M+4:=by rw [<-C];simp;omega
 obtain ⟨h,R⟩:∃h,d.alloc (.cells #[m.ksl,sc (some (aa (M+3) 0)) 1 1] 46)=h:=⟨_,rfl⟩;have ab:Below d.heap.size d h:=by rw [<-R];exact zaQ
 have aj:h.heap[M+4]? = some (.cells #[m.ksl,sc (some (aa (M+3) 0)) 1 1] 46 (0,0)):=by rw [<-R,<-Z];exact xab d _
 have P:Below V.heap.size V d:=(zG (zaR _ _) 1).trans am;have T:Below V.heap.size V h:=zA P P.size ab;have X:=hid (cB (M+4) m.kp (some (aa (M+3) 0)) m.kc 1 m.ks [k] h aj (O.out h T).keys (zRV ((ab.block (M+3) (by omega)).trans ah)) (by simp;omega));have N:Hid (Below V.heap.size V h):=T;obtain ⟨⟨B,z⟩,x,u⟩:=t.out V (fun _ _=>rfl);obtain ⟨⟨a01,a11⟩,b01,b11⟩:=t.out d (fun b I=>P.block b (by omega));obtain ⟨⟨a02,a12⟩,b02,b12⟩:=t.out h (fun b I=>T.block b (by omega));have ak:V.drew.heap.size=M+3:=hs;obtain ⟨kp,kc,ks,rp,rc,rs⟩:=m;obtain ⟨ka,kb⟩:=k;simp only [xE,Mx.ksl,Mx.rsl] at *
 generalize kA _ _=KM' at *
 obtain ⟨f,al⟩:∃f,wM (ks++[(ka,kb)])=f:=⟨_,rfl⟩;rw [al] at ac X;go_enter func125,ntmps125;go_wp2_with fail;(try rw [Y]);(try rw [hM]);refine tkb (S:=fun q=>q.cell? (aa M 0)=some (sc kp ks.length kc)/\q.cell? (aa M 1)=some (sc rp rs.length rc)/\q.cell? (aa (M+1) 0)=some (tq ka)/\q.cell? (aa (M+1) 1)=some (tq kb)) ⟨B,z,x,u⟩ fun hA=>?_;refine tkv3 0 1 2 (.pointer (some (aa M 0))) (sc kp ks.length kc) (.agg #[tq ka,tq kb]) hA ?_;simp only [Act.put,sz];refine tkv2 6 7 (.pointer (some (aa M 1))) (sc rp rs.length rc) hA ?_;simp only [Act.put,sz];refine tkc 3 fun K g=>?_
 go_simp
 go_wp2_with fail
 (try rw [ak]);(try rw [hs]);(try rw [C]);refine g.out _ _ (⟨a01,a11,b01,b11⟩) (fun hA=>?_)
 try simp only [Act.put,sz]
 refine tkc 4 fun K g=>?_
 go_simp
 go_wp2_with fail
 (try rw [Z]);(try rw [R]);refine g.out _ _ (⟨a02,a12,b02,b12⟩) (fun hA=>?_)
 try simp only [Act.put,sz]
 refine tkc 5 fun K g=>?_
 go_simp
 refine X.out.mono ?_;rintro e y ⟨u2,rfl,W,ao⟩;obtain ⟨p2,c2,rfl⟩:=zC.own_shape W;have hb2':Below V.heap.size V y:=zA N.out N.out.size ao;obtain ⟨⟨B,z⟩,x,u⟩:=t.out y (fun b I=>hb2'.block b (by omega));have HR:=hid (dW (sc rp rs.length rc) rs y (O.out y hb2').rows (O.out y hb2').each (by omega));have an:=hid (zC.own_weak W N.out.size);have E:=hid hb2';go_wp2_with fail;refine g.out _ _ (⟨B,z,x,u⟩) (fun hA=>?_)
 try simp only [Act.put,sz]
 refine tkc 8 fun K g=>?_
 go_simp
 refine HR.out.mono ?_;rintro e o ⟨n,l,c,rfl,p,ap⟩;have hb3':Below V.heap.size V o:=zA E.out E.out.size p.row.bel;obtain ⟨⟨B,z⟩,x,u⟩:=t.out o (fun b I=>hb3'.block b (by omega));obtain ⟨⟨q0,q1⟩,r0,r1⟩:=ai.out o hb3';have ad:=hid (zC.own_on an.out p.row.bel);have H:Hid (KRx.Own V.heap.size o (sc n c.length l) c/\(∀r∈c,KM.Own V.heap.size o r.sl r.tm/\zBh r.tm)/\zCQ c):=⟨zC.own_weak p.row.own E.out.size,fun r i=>⟨zC.own_weak (p.each r i).1 E.out.size,(p.each r i).2⟩,p.apart⟩;have af:=hid ap;have au:=hid hb3';obtain ⟨W4,hW4⟩:∃W4,(o.setCell (aa (M+2) 0) (sc p2 f.length c2)).setCell (aa (M+2) 1) (sc n c.length l)=W4:=⟨_,rfl⟩
 obtain ⟨⟨e0,G⟩,D,s⟩:=t.out W4 (fun b I=>by
  rw [<-hW4,xaC _ _ b _ (by show b≠M+2;omega),xaC _ _ b _ (by show b≠M+2;omega)];exact hb3'.block b (by omega))
 have Q:W4.cell? (aa (M+2) 0)=some (sc p2 f.length c2):=by rw [<-hW4];simp [go_sem,q0]
 have J:W4.cell? (aa (M+2) 1)=some (sc n c.length l):=by rw [<-hW4];simp [go_sem,q1]
 have HG:=hid (xbf Q J)
 have ae:Hid (Below w.heap.size w W4):=by
  rw [<-hW4];have A:=ag.out o hb3';rw [hM] at A ⊢;exact (A.setCell (show M<=M+2 by omega) _).setCell (show M<=M+2 by omega) _
 have F:Hid (KK.Own V.heap.size W4 (sc p2 f.length c2) f/\KRx.Own V.heap.size W4 (sc n c.length l) c/\∀r∈c,KM.Own V.heap.size W4 r.sl r.tm/\zBh r.tm):=by
  rw [<-hW4];exact ⟨wC (wC ad.out (by omega) _ _) (by omega) _ _,wC (wC H.out.1 (by omega) _ _) (by omega) _ _,fun r i=>⟨wC (wC (H.out.2.1 r i).1 (by omega) _ _) (by omega) _ _,(H.out.2.1 r i).2⟩⟩
 go_wp2_with fail
 refine g.out _ _ (⟨B,z,x,u⟩) (fun hA=>?_)
 try simp only [Act.put,sz]
 refine tkv 9 (.agg #[sc p2 f.length c2,sc n c.length l]) hA ?_;simp only [Act.put,sz];refine tkc 10 fun K g=>?_
 go_simp
 go_wp2_with fail
 (try rw [hW4]);refine g.out _ _ (⟨e0,G,D,s⟩) (fun hA=>?_)
 try simp only [Act.put,sz]
 refine tkd ?_;obtain ⟨Q,J⟩:=HG.out;have L:w.heap.size<=V.heap.size:=by omega
 go_wp2_with fail
 refine zaB (v:=.agg #[sc p2 f.length c2,sc n c.length l]) (by simp [results,results125,go_sem,Q,J]) rfl ⟨⟨p2,c2,f,n,l,c⟩,rfl,⟨zC.own_weak F.out.1 L,zC.own_weak F.out.2.1 L,fun r i=>⟨zC.own_weak (F.out.2.2 r i).1 L,(F.out.2.2 r i).2⟩,H.out.2.2⟩,?_,ae.out⟩;rw [ac.out];show (f,c.map Rx.rg)=_;rw [af.out]
section
variable {M b:Nat} {W:World} {e:Ending} {u:Value}
def qH (N:Nat) (w:World) (v:Value) (rg:List Rg):Prop:=∃p c L,v=.slice p L.length c/\KRx.Own N w (.slice p L.length c) L/\(∀r∈L,KM.Own N w r.sl r.tm/\zBh r.tm)/\zCQ L/\L.map Rx.rg=rg
def sH (N:Nat) (w:World) (v:Value) (ks:List Ky):Prop:=∃p c,v=.slice p ks.length c/\KK.Own N w (.slice p ks.length c) ks
section
variable {N:Nat} {w w':World} {v:Value} {rg:List Rg} {ks:List Ky}
theorem qH.on (h:qH N w v rg) (a:Below w.heap.size w w'):qH N w' v rg:=by
 obtain ⟨p,c,L,m,j,g,i,l⟩:=h;exact ⟨p,c,L,m,zC.own_on j a,fun r d=>⟨zC.own_on (g r d).1 a,(g r d).2⟩,i,l⟩
theorem qH.weak (h:qH N w v rg) (a:M<=N):qH M w v rg:=by
 obtain ⟨p,c,L,m,j,g,i,l⟩:=h;exact ⟨p,c,L,m,zC.own_weak j a,fun r d=>⟨zC.own_weak (g r d).1 a,(g r d).2⟩,i,l⟩
theorem qH.cell (h:qH N w v rg) {b:Nat} (a:b<N) (j:Nat) (x:Value):qH N (w.setCell ⟨b,j,none⟩ x) v rg:=by
 obtain ⟨p,c,L,n,l,g,i,m⟩:=h;exact ⟨p,c,L,n,wC l a _ _,fun r d=>⟨wC (g r d).1 a _ _,(g r d).2⟩,i,m⟩
theorem sH.on (h:sH N w v ks) (a:Below w.heap.size w w'):sH N w' v ks:=by
 obtain ⟨p,c,g,d⟩:=h;exact ⟨p,c,g,zC.own_on d a⟩
theorem sH.weak (h:sH N w v ks) (d:M<=N):sH M w v ks:=by
 obtain ⟨p,c,g,a⟩:=h;exact ⟨p,c,g,zC.own_weak a d⟩
theorem sH.cell (h:sH N w v ks) {b:Nat} (a:b<N) (j:Nat) (x:Value):sH N (w.setCell ⟨b,j,none⟩ x) v ks:=by
 obtain ⟨p,c,g,d⟩:=h;exact ⟨p,c,g,wC d a _ _⟩
theorem zDN (h:zC2 W rg e w'):∃u,e=.returned u/\qH W.heap.size w' u rg/\Below W.heap.size W w':=by
 obtain ⟨p,c,L,rfl,a,d⟩:=h;exact ⟨_,rfl,⟨p,c,L,rfl,a.row.own,a.each,a.apart,d⟩,a.row.bel⟩
theorem zDP (h:bQ W ks e w'):∃u,e=.returned u/\sH W.heap.size w' u ks/\Below W.heap.size W w':=by
 obtain ⟨u,rfl,a,d⟩:=h;obtain ⟨p,c,rfl⟩:=zC.own_shape a;exact ⟨_,rfl,⟨p,c,rfl,a⟩,d⟩
end
structure kY (V:World) (M2:Nat) (c9 c15:Array Value) (ks:List Ky) (rg:List Rg) (k:Nat) (f:Bool) (t9 t10 t15 t16 t17:Value) (w:World):Prop where
 bel:k<=4->Below V.heap.size V w
 box0:k<=4->w.heap[M2]? = some (.cells #[.slice none 0 0,.slice none 0 0] 49 (0,0))
 box5:5<=k->w.heap[M2]? = some (.cells #[t10,t16] 49 (0,0))/\Below M2 V w
 p9:k=1->∃b,t9=.slice (some ⟨b,0,none⟩) 2 2/\w.heap[b]? = some (.cells c9 46 (0,0))
 k10:2<=k->sH V.heap.size w t10 ks
 p15:f=true->k<=2->∃b,t15=.slice (some ⟨b,0,none⟩) 2 2/\w.heap[b]? = some (.cells c15 47 (0,0))
 d15:3<=k->f=true
 r16:3<=k->qH V.heap.size w t16 rg
 b17:4<=k->t17=.agg #[t10,t16]
section
variable {V:World} {M2:Nat} {c9 c15:Array Value} {ks:List Ky} {rg:List Rg} {k:Nat} {f:Bool} {t9 t10 t15 t16 t17:Value} {w w':World}
theorem mU {o:Obj} (h:w.heap[b]? = some o) (a:Below w.heap.size w w'):w'.heap[b]? = some o:=(a.block b (Array.getElem?_eq_some_iff.1 h).1).trans h
theorem kY.on (h:kY V M2 c9 c15 ks rg k f t9 t10 t15 t16 t17 w) (c:Below w.heap.size w w') (a:k<=4):kY V M2 c9 c15 ks rg k f t9 t10 t15 t16 t17 w':=⟨fun a=>zA (h.bel a) (h.bel a).size c,fun a=>mU (h.box0 a) c,(fun j=>by omega),fun a=>by obtain ⟨b,i,d⟩:=h.p9 a;grind [mU],fun a=>(h.k10 a).on c,fun g a=>by obtain ⟨b,i,d⟩:=h.p15 g a;grind [mU],h.d15,fun a=>(h.r16 a).on c,h.b17⟩
theorem zOT (a:V.heap[M2]? = some (.cells #[.slice none 0 0,.slice none 0 0] 49 (0,0))) (t9 t10 t15 t16 t17:Value):kY V M2 c9 c15 ks rg 0 false t9 t10 t15 t16 t17 V:=⟨fun _=>zaR _ _,fun _=>a,(fun h=>by omega),(fun h=>by omega),(fun h=>by omega),(fun h=>by cases h),(fun h=>by omega),(fun h=>by omega),(fun h=>by omega)⟩
theorem kK (w:World) (o:Obj):Below w.heap.size w (w.alloc o):=zaQ
theorem zRn (h:kY V M2 c9 c15 ks rg 0 f t9 t10 t15 t16 t17 w):kY V M2 c9 c15 ks rg 1 f (.slice (some ⟨w.heap.size,0,none⟩) 2 2) t10 t15 t16 t17 (w.alloc (.cells c9 46)):=by
 have g:=h.on (kK w (.cells c9 46)) (by omega);exact ⟨fun _=>g.bel (by omega),fun _=>g.box0 (by omega),(fun h=>by omega),fun _=>⟨_,rfl,xab w _⟩,(fun h=>by omega),fun a _=>g.p15 a (by omega),(fun h=>by omega),(fun h=>by omega),(fun h=>by omega)⟩
theorem zSF (h:kY V M2 c9 c15 ks rg 1 f t9 t10 t15 t16 t17 w) (d:Below w.heap.size w w') (c:sH w.heap.size w' u ks):kY V M2 c9 c15 ks rg 2 f t9 u t15 t16 t17 w':=by
 have g:=h.on d (by omega);exact ⟨fun _=>g.bel (by omega),fun _=>g.box0 (by omega),(fun h=>by omega),(fun h=>by omega),fun _=>c.weak (h.bel (by omega)).size,fun a _=>g.p15 a (by omega),(fun h=>by omega),(fun h=>by omega),(fun h=>by omega)⟩
theorem zRU (h:kY V M2 c9 c15 ks rg 2 true t9 t10 t15 t16 t17 w) (c:Below w.heap.size w w') (a:qH w.heap.size w' u rg):kY V M2 c9 c15 ks rg 3 true t9 t10 t15 u t17 w':=by
 have g:=h.on c (by omega);exact ⟨fun _=>g.bel (by omega),fun _=>g.box0 (by omega),(fun h=>by omega),(fun h=>by omega),fun _=>g.k10 (by omega),(fun _ h=>by omega),fun _=>rfl,fun _=>a.weak (h.bel (by omega)).size,(fun h=>by omega)⟩
theorem zRA (h:kY V M2 c9 c15 ks rg 3 f t9 t10 t15 t16 t17 w):kY V M2 c9 c15 ks rg 4 f t9 t10 t15 t16 (.agg #[t10,t16]) w:=⟨fun _=>h.bel (by omega),fun _=>h.box0 (by omega),(fun h=>by omega),(fun h=>by omega),fun _=>h.k10 (by omega),(fun _ h=>by omega),fun _=>h.d15 (by omega),fun _=>h.r16 (by omega),fun _=>rfl⟩
theorem zR8 (h:kY V M2 c9 c15 ks rg 4 f t9 t10 t15 t16 t17 w) (a:M2<V.heap.size):kY V M2 c9 c15 ks rg 5 f t9 t10 t15 t16 t17 ((w.setCell ⟨M2,0,none⟩ t10).setCell ⟨M2,1,none⟩ t16):=by
 have i:=h.box0 (by omega);have d:(w.setCell (aa M2 0) t10).heap[M2]? = some (oc #[t10,sc none 0 0] 49):=xaa _ M2 0 _ _ _ i;have c:((w.setCell (aa M2 0) t10).setCell (aa M2 1) t16).heap[M2]? = some (oc #[t10,t16] 49):=xaa _ M2 1 _ _ _ d;have g:Below M2 V w:=(h.bel (by omega)).mono (by omega);exact ⟨(fun h=>by omega),(fun h=>by omega),fun _=>⟨c,(g.setCell (zaL M2) _).setCell (zaL M2) _⟩,(fun h=>by omega),fun _=>((h.k10 (by omega)).cell a _ _).cell a _ _,(fun _ h=>by omega),fun _=>h.d15 (by omega),fun _=>((h.r16 (by omega)).cell a _ _).cell a _ _,fun _=>h.b17 (by omega)⟩
theorem zRM (h:kY V M2 c9 c15 ks rg k false t9 t10 t15 t16 t17 w):kY V M2 c9 c15 ks rg k true t9 t10 (.slice (some ⟨w.heap.size,0,none⟩) 2 2) t16 t17 (w.alloc (.cells c15 47)):=by
 have c:¬ 3<=k:=fun a=>by have:=h.d15 a;cases this
 have g:=h.on (kK w (.cells c15 47)) (by omega);exact ⟨g.bel,g.box0,(fun h=>by omega),g.p9,g.k10,fun _ _=>⟨_,rfl,xab w _⟩,(fun h=>by omega),(fun h=>by omega),(fun h=>by omega)⟩
end
theorem zFJ (a b:Mx) (w:World) (J:MIn w a) (Y:MIn w b) (G:zSG a) (T:zSG b):CC 57 #[.agg (xE a).toArray,.agg (xE b).toArray] w fun e w'=>mC w (zC3 a.mk' b.mk') e w':=by
 obtain ⟨V,I⟩:=eE (((w.alloc (.cells (xE a).toArray 49)).alloc (.cells (xE b).toArray 49)).alloc (.cells #[sc none 0 0,sc none 0 0] 49));obtain ⟨M,hM⟩:=eE w.heap.size;obtain ⟨hbV,h1,h2,h3,hs⟩:=zBe w _ _ _ _ _ _ V I;rw [hM] at h1 h2 h3 hs;have w1:=G.1;have Q:=G.2;have t:=T.1;have w4:=T.2
 have U:Hid (∀g:World,(∀c,c<M+2->g.heap[c]? = V.heap[c]?)->(g.cell? (aa M 0)=some a.ksl/\g.cell? (aa M 1)=some a.rsl)/\g.cell? (aa (M+1) 0)=some b.ksl/\g.cell? (aa (M+1) 1)=some b.rsl):=fun g m=>by
  have X:=(m M (by omega)).trans h1;have H:=(m (M+1) (by omega)).trans h2;exact ⟨⟨by rw [zaC X];rfl,by rw [zaC X];rfl⟩,by rw [zaC H];rfl,by rw [zaC H];rfl⟩
 have ae:Hid (∀(g:World) B,Below V.drew.heap.size V.drew g->g.heap[B]? = some (oc #[a.ksl,b.ksl] 46)->CC 99 #[sc (some (aa B 0)) 2 2] g fun e w'=>bQ g (wM (a.ks++b.ks)) e w'):=fun g B m s =>
  cB B a.kp b.kp a.kc b.kc a.ks b.ks g s (J.on (zA hbV hbV.size ((zG (zaR _ V) 1).trans m))).keys (Y.on (zA hbV hbV.size ((zG (zaR _ V) 1).trans m))).keys (by omega)
 have ag:Hid (∀(g:World) B,Below V.drew.heap.size V.drew g->g.heap[B]? = some (oc #[a.rsl,b.rsl] 47)->CC 100 #[sc (some (aa B 0)) 2 2] g fun e w'=>zC2 g ((b.rs.map Rx.rg).foldl wZ ((a.rs.map Rx.rg).foldl wZ [])) e w'):=fun g B m s=>by
  have L:=J.on (zA hbV hbV.size ((zG (zaR _ V) 1).trans m));have hB':=Y.on (zA hbV hbV.size ((zG (zaR _ V) 1).trans m));exact zD2 B a.rp b.rp a.rc b.rc a.rs b.rs g s L.rows hB'.rows L.each hB'.each (by omega)
 have Z:Hid (zC3 a.mk' b.mk'=(wM (a.ks++b.ks),(b.rs.map Rx.rg).foldl wZ ((a.rs.map Rx.rg).foldl wZ []))):=by show _=_;rw [zAM];rfl
 have ab:=hid hbV;have x:=hid (zOT (V:=V.drew) (M2:=M+2) (c9:=#[a.ksl,b.ksl]) (c15:=#[a.rsl,b.rsl]) (ks:=wM (a.ks++b.ks)) (rg:=(b.rs.map Rx.rg).foldl wZ ((a.rs.map Rx.rg).foldl wZ [])) h3);have ai:M+2<V.drew.heap.size:=by show M+2<V.heap.size;omega
 obtain ⟨⟨z,R⟩,O,F⟩:=U.o V (fun _ _=>rfl);obtain ⟨akp,akc,aks,arp,arc,ars⟩:=a;obtain ⟨bkp,bkc,bks,brp,brc,brs⟩:=b;simp only [xE,Mx.ksl,Mx.rsl] at *
 generalize zC3 _ _=UM at *
 generalize wM (aks++bks)=ks at *
 generalize (brs.map Rx.rg).foldl wZ ((ars.map Rx.rg).foldl wZ [])=rg at *
 go_enter func57,ntmps57
 go_wp2_with fail
 (try rw [I]);(try rw [hM]);refine tkb (S:=fun w'=>w'.cell? (aa M 0)=some (sc akp aks.length akc)/\w'.cell? (aa M 1)=some (sc arp ars.length arc)/\w'.cell? (aa (M+1) 0)=some (sc bkp bks.length bkc)/\w'.cell? (aa (M+1) 1)=some (sc brp brs.length brc)) ⟨z,R,O,F⟩ fun f=>?_;refine tkv4 0 1 2 3 (jp M) (sc akp aks.length akc) (jp (M+1)) (sc bkp bks.length bkc) f ?_;simp only [Act.put,sz];refine tkv4 6 7 8 9 (.pointer (some (aa M 1))) (sc arp ars.length arc) (.pointer (some (aa (M+1) 1))) (sc brp brs.length brc) f ?_;simp only [Act.put,sz];refine uR [4,5,11,12,13] [10] (fun z k n a w'=>∃t9 t10 t15 t16 t17,a=wL z [(9,t9),(10,t10),(15,t15),(16,t16),(17,t17)]/\kY V.drew (M+2) #[sc akp aks.length akc,sc bkp bks.length bkc] #[sc arp ars.length arc,sc brp brs.length brc] ks rg k (n.headD false) t9 t10 t15 t16 t17 w') (by kernel_rfl) (by decide) ⟨_,_,_,_,_,(pI _ [9,10,15,16,17]).symm,x.o _ _ _ _ _⟩ ?hS ?hmain ?halloc ?hend
 case hS =>
  rintro k n a w' ⟨t9,t10,t15,t16,t17,rfl,d⟩
  have:∀c,c<M+2->w'.heap[c]? = V.heap[c]?:=fun c hc=>by
   by_cases y:k<=4
   ·exact (d.bel y).block c (by omega)
   exact (d.box5 (by omega)).2.block c hc
  obtain ⟨⟨z,R⟩,O,F⟩:=U.o w' this
  grind
 case hmain =>
  rintro k p n a w' y E af ⟨t9,t10,t15,t16,t17,rfl,d⟩
  obtain ⟨l,rfl⟩:∃l,n=[l]:=by
   match n,E with
   | [l],_=>grind
  simp only [xbK] at d ⊢
  rcases k with _|_|_|_|_|k
  ·obtain rfl:p=4:=by grind
   have i:=hid (zRn d);refine ⟨_,zB rfl,fun K h=>?_⟩;simp only [wL,xal,xaq,Act.put,sz];rw [xae (by rfl)]
   go_simp
   go_wp2_with fail
   exact h.out _ _ ⟨_,t10,t15,t16,t17,rfl,i.o⟩
  ·obtain rfl:p=5:=by grind
   obtain ⟨B,rfl,s⟩:=d.p9 rfl;have A:=hid (ae.o w' B (d.bel (by omega)) s);have x:=hid d;refine ⟨_,zB rfl,fun K h=>?_⟩;simp only [wL,xal,xaq,Act.put,sz];rw [xae (by rfl)]
   go_simp
   refine A.o.mono ?_;rintro e Q D;obtain ⟨u,rfl,ho,hb2⟩:=zDP D;have i:=hid (zSF x.o hb2 ho);go_wp2_with fail;exact h.out _ _ ⟨_,u,t15,t16,t17,rfl,i.o⟩
  ·obtain rfl:p=11:=by grind
   cases l with
   | false=>exact (sP af (by kernel_rfl)).elim
   | true =>
   obtain ⟨B,rfl,s⟩:=d.p15 rfl (by omega);have A:=hid (ag.o w' B (d.bel (by omega)) s);have x:=hid d;refine ⟨_,zB rfl,fun K h=>?_⟩;simp only [wL,xal,xaq,Act.put,sz];rw [xae (by rfl)]
   go_simp
   refine A.o.mono ?_;rintro e Q D;obtain ⟨u,rfl,ho,hb2⟩:=zDN D;have i:=hid (zRU x.o hb2 ho);go_wp2_with fail;exact h.out _ _ ⟨t9,t10,_,u,t17,rfl,i.o⟩
  ·obtain rfl:p=12:=by grind
   obtain ⟨p1,c1,rfl,_⟩:=d.k10 (by omega);obtain ⟨p2,c2,L2,rfl,_⟩:=d.r16 (by omega);have i:=hid (zRA d);refine ⟨_,zB rfl,fun K h=>?_⟩;simp only [wL,xal,xaq,Act.put,sz];rw [xae (by rfl)]
   go_simp
   go_wp2_with fail
   exact h.out _ _ ⟨t9,_,t15,_,_,rfl,i.o⟩
  ·obtain rfl:p=13:=by grind
   obtain ⟨p1,c1,rfl,_⟩:=d.k10 (by omega);obtain ⟨p2,c2,L2,rfl,_⟩:=d.r16 (by omega);obtain rfl:=d.b17 (by omega);have q:=d.box0 (by omega);have q0:w'.cell? (aa (M+2) 0)=some (sc none 0 0):=cz q;have q1:w'.cell? (aa (M+2) 1)=some (sc none 0 0):=cz q;have r0:w'.frozen? (aa (M+2) 0)=false:=zaF q 0;have r1:w'.frozen? (aa (M+2) 1)=false:=zaF q 1;have i:=hid (zR8 d ai);refine ⟨_,zB rfl,fun K h=>?_⟩;simp only [wL,xal,xaq,Act.put,sz];rw [xae (by rfl)]
   go_simp
   go_wp2_with fail
   exact h.out _ _ ⟨t9,_,t15,_,_,rfl,i.o⟩
  simp at y
 case halloc =>
  rintro j p k n a w' hj y E hf ⟨t9,t10,t15,t16,t17,rfl,d⟩
  obtain ⟨l,rfl⟩:∃l,n=[l]:=by
   match n,E with
   | [l],_=>grind
  rcases j with _|j
  ·obtain rfl:p=10:=by grind
   obtain rfl:l=false:=by grind
   simp only [xbK,xbP] at d ⊢;have i:=hid (zRM d);refine ⟨_,zB rfl,fun K h=>?_⟩;simp only [wL,xal,xaq,Act.put,sz];rw [xae (by rfl)]
   go_simp
   go_wp2_with fail
   exact h.out _ _ ⟨t9,t10,_,t16,t17,rfl,i.o⟩
  simp at hj
 rintro a t ⟨t9,t10,t15,t16,t17,rfl,d⟩;obtain ⟨p2,c2,rfl,hk2⟩:=d.k10 (by decide);obtain ⟨p3,c3,L3,rfl,hr3,he3,ha3,hm3⟩:=d.r16 (by decide);obtain ⟨q,hbl⟩:=d.box5 (by decide);have g0:t.cell? (aa (M+2) 0)=some (sc p2 ks.length c2):=cz q;have g1:t.cell? (aa (M+2) 1)=some (sc p3 L3.length c3):=cz q;have C:w.heap.size<=V.drew.heap.size:=by show w.heap.size<=V.heap.size;omega
 have ac:Hid (Bw w t):=ab.o.trans ((zG (zaR _ V) 1).trans (hbl.mono (by omega)));have ah:Hid (jE w.heap.size t ⟨p2,c2,ks,p3,c3,L3⟩):=⟨zC.own_weak hk2 C,zC.own_weak hr3 C,fun r P=>⟨zC.own_weak (he3 r P).1 C,(he3 r P).2⟩,ha3⟩;have ad:=hid hm3;go_wp2_with fail;refine zaB (v:=.agg #[sc p2 ks.length c2,sc p3 L3.length c3]) (by simp [results,results57,go_sem,g0,g1,wL,Act.put]) rfl ⟨⟨p2,c2,ks,p3,c3,L3⟩,rfl,ah.o,?_,ac.o⟩;rw [Z.o,<-ad.o];rfl
end
section
variable {w:World} {b N O g c' c1:Nat} {v u:Value} {c:Array Value} {x:Rx} {p1:Option Addr}
theorem zPF:(prog.info? 36).map (fun i=>(i.zero,i.size,i.bytes))=some (some (.agg #[.string ⟨#[]⟩,.string ⟨#[]⟩]),2,32):=by kernel_rfl
theorem zND {a:Nat} {p:List Ky} (h:KK.At w b a p) (j:Nat) (u:Value) (m:(KK.cells p)[j]? = some u):w.cell? ⟨b,a+j,none⟩=some u:=by
 rcases zC.src (K:=KK) (w:=w) (p:=some (aa b a)) (d:=p) (xaf ⟨b,a,rfl,h⟩) with n|⟨l,e,i⟩
 ·grind [zC.cells]
 grind [addr_add]
theorem zBg (v:Value) (p:List Ky) (w:World) (s:KK.Is w v p) (hs:p.length * 32<=140737488355328):CC 190 #[v] w fun e w'=>∃u,e=.returned u/\KK.Own w.heap.size w' u p/\Below w.heap.size w w':=by
 obtain ⟨r,hi,y,E,C⟩:=xaL zPF;obtain ⟨q,cap,rfl,hd⟩:=s;have K:∀(w:World) (a:Option Addr) (n c d c':Nat),(binOp .eql 46 (sc a n c) (sc none d c')).run prog w=.ok (.bool a.isNone) w:=fun w a n c d c'=>xbv w _ _ a n c d c' underlying46
 have l:=hid hd
 cases q with
 | none =>
  have B:p=[]:=by
   rcases l.o with h|⟨b,H,h,_⟩
   ·exact h
   cases h
  subst B;go_enter func190,ntmps190;go_wp2_with fail;go_ret;exact ⟨_,rfl,KK.own_nil _ _,zaR _ _⟩
 | some a =>
 have F:∀j u,(KK.cells p)[j]? = some u->(w.alloc (.cells #[] 36)).cell? (a.add j)=some u:=by
  rcases l.o with h|⟨b,H,h,I⟩
  ·grind [zC.cells]
  grind [addr_add,zND,World.cell?_alloc_lt,zI]
 have t:=hid F;go_enter func190,ntmps190;go_wp2_with (at_builtin;refine xbj _ rfl _ _ 46 rfl w.z 36 r (.agg #[tq ⟨#[]⟩,tq ⟨#[]⟩]) 2 32 underlying46 hi y E C rfl (by decide) _ _ _ rfl (xbO w #[] 0 (zaL _) (xaE _) (by simp)) a p.length cap (KK.cells p) rfl ?c0 ?c1 ?c2 ?c3 ?c4 ?c5 ?_)
 case c0=>exact KK.cells_len p
 case c1=>exact t.o
 case c2=>exact KK.cells_ones p
 case c3=>unfold maxLen;omega
 case c4=>omega
 case c5=>simp
 intro m i M D J;have G:Bw w i:=((zaR _ w).alloc (zaL _) _).grown D (by simp) (by grind [Value.ownBlock]);have A:Hid (KK.Own w.z i m p):=hid (by show i.ownsRow w.z 36 2 m p.length (KK.cells p);omega);go_wp2_with fail;go_ret;exact ⟨_,rfl,A.o,G⟩
theorem gG {α:Type} {K:zC α} {l:List α} {T:TypeId} (h:K.Own N w v l) (m:w.heap[O]? = some (.cells c T (0,0))) (i:K.T≠T) (j:Nat) (x:Value):K.Own N (w.setCell ⟨O,j,none⟩ x) v l:=Fr.row (P:=fun k=>k=O) (Fr.of_grown (xS w O j x) fun k a=>by grind) (show w.ownsRow N K.T K.k v l.length (K.cells l) from h) fun k a e=>by
  obtain ⟨c1,d⟩:=zV (show w.ownsRow N K.T K.k v l.length (K.cells l) from h) a
  grind
theorem sH.mset {ks:List Ky} (h:sH N w v ks) (d:w.heap[O]? = some (.cells c 49 (0,0))) (j:Nat) (x:Value):sH N (w.setCell ⟨O,j,none⟩ x) v ks:=by
 obtain ⟨p,c,e,a⟩:=h;exact ⟨p,c,e,gG a d (by decide) j x⟩
theorem qH.mset {rg:List Rg} (h:qH N w v rg) (a:w.heap[O]? = some (.cells c 49 (0,0))) (j:Nat) (x:Value):qH N (w.setCell ⟨O,j,none⟩ x) v rg:=by
 obtain ⟨p,c,L,n,l,e,i,m⟩:=h;exact ⟨p,c,L,n,gG l a (by decide) j x,fun r d=>⟨gG (e r d).1 a (by decide) j x,(e r d).2⟩,i,m⟩
structure bH (V:World) (ks:List Ky) (rg:List Rg) (k:Nat) (f:Bool) (t7 t11 t14 t15:Value) (w:World):Prop where
 bel:Below V.heap.size V w
 k11:1<=k->sH V.heap.size w t11 ks
 r14:2<=k->qH V.heap.size w t14 rg
 b15:3<=k->t15=.agg #[t11,t14]
 box0:f=true->k<=3->∃b,t7=.pointer (some ⟨b,0,none⟩)/\V.heap.size<=b/\w.heap[b]? = some (.cells #[.slice none 0 0,.slice none 0 0] 49 (0,0))
 box4:4<=k->∃b,t7=.pointer (some ⟨b,0,none⟩)/\V.heap.size<=b/\w.heap[b]? = some (.cells #[t11,t14] 49 (0,0))
 d7:4<=k->f=true
section
variable {V:World} {ks:List Ky} {rg:List Rg} {k:Nat} {f:Bool} {t7 t11 t14 t15:Value} {w w':World}
theorem bH.on (h:bH V ks rg k f t7 t11 t14 t15 w) (d:Below w.heap.size w w'):bH V ks rg k f t7 t11 t14 t15 w':=⟨zA h.bel h.bel.size d,fun a=>(h.k11 a).on d,fun a=>(h.r14 a).on d,h.b15,fun i a=>by obtain ⟨b,j,e,l⟩:=h.box0 i a;grind [mU],fun a=>by obtain ⟨b,j,e,l⟩:=h.box4 a;grind [mU],h.d7⟩
theorem zMr (V:World) (ks:List Ky) (rg:List Rg) (t7 t11 t14 t15:Value):bH V ks rg 0 false t7 t11 t14 t15 V:=⟨zaR _ _,(fun h=>by omega),(fun h=>by omega),(fun h=>by omega),(fun h=>by cases h),(fun h=>by omega),(fun h=>by omega)⟩
theorem zRj (h:bH V ks rg 0 f t7 t11 t14 t15 w) (e:Below w.heap.size w w') (d:sH w.heap.size w' u ks):bH V ks rg 1 f t7 u t14 t15 w':=by
 have g:=h.on e;exact ⟨g.bel,fun _=>d.weak h.bel.size,(fun h=>by omega),(fun h=>by omega),fun a _=>g.box0 a (by omega),(fun h=>by omega),(fun h=>by omega)⟩
theorem zSI (h:bH V ks rg 1 f t7 t11 t14 t15 w) (e:Below w.heap.size w w') (d:qH w.heap.size w' u rg):bH V ks rg 2 f t7 t11 u t15 w':=by
 have g:=h.on e;exact ⟨g.bel,fun _=>g.k11 (by omega),fun _=>d.weak h.bel.size,(fun h=>by omega),fun a _=>g.box0 a (by omega),(fun h=>by omega),(fun h=>by omega)⟩
theorem zRi (h:bH V ks rg 2 f t7 t11 t14 t15 w):bH V ks rg 3 f t7 t11 t14 (.agg #[t11,t14]) w:=⟨h.bel,fun _=>h.k11 (by omega),fun _=>h.r14 (by omega),fun _=>rfl,fun a _=>h.box0 a (by omega),(fun h=>by omega),(fun h=>by omega)⟩
theorem zSC (h:bH V ks rg 3 true (.pointer (some ⟨b,0,none⟩)) t11 t14 t15 w):bH V ks rg 4 true (.pointer (some ⟨b,0,none⟩)) t11 t14 t15 ((w.setCell ⟨b,0,none⟩ t11).setCell ⟨b,1,none⟩ t14):=by
 obtain ⟨l,e,a,i⟩:=h.box0 rfl (by omega);injection e with e
 injection e with e
 injection e with e _ _
 subst e;have d:(w.setCell (aa b 0) t11).heap[b]? = some (oc #[t11,sc none 0 0] 49):=xaa _ b 0 _ _ _ i;have j:((w.setCell (aa b 0) t11).setCell (aa b 1) t14).heap[b]? = some (oc #[t11,t14] 49):=xaa _ b 1 _ _ _ d;exact ⟨(h.bel.setCell (p:=(aa b 0)) a _).setCell (p:=(aa b 1)) a _,fun _=>((h.k11 (by omega)).mset i _ _).mset d _ _,fun _=>((h.r14 (by omega)).mset i _ _).mset d _ _,fun _=>h.b15 (by omega),(fun _ h=>by omega),fun _=>⟨b,rfl,a,j⟩,fun _=>rfl⟩
theorem zRh (h:bH V ks rg k false t7 t11 t14 t15 w):bH V ks rg k true (.pointer (some ⟨w.heap.size,0,none⟩)) t11 t14 t15 (w.alloc (.cells #[.slice none 0 0,.slice none 0 0] 49)):=by
 have d:¬ 4<=k:=fun a=>by have:=h.d7 a;cases this
 have g:=h.on (kK w (.cells #[sc none 0 0,sc none 0 0] 49));exact ⟨g.bel,g.k11,g.r14,g.b15,fun _ _=>⟨_,rfl,h.bel.size,xab w _⟩,(fun h=>by omega),(fun h=>by omega)⟩
end
structure dK (V:World) (b:Nat) (kv:Value) (p:Option Addr) (c:Nat) (L:List Rx) (ks:List Ky) (w:World):Prop where
 ge:V.heap.size<=b
 box:w.heap[b]? = some (.cells #[kv,.slice p L.length c] 49 (0,0))
 key:sH V.heap.size w kv ks
 rng:jL V.heap.size V (.slice p L.length c) L w
section
variable {V:World} {b:Nat} {kv:Value} {p:Option Addr} {c:Nat} {L:List Rx} {ks:List Ky} {w w':World}
theorem dK.bel (h:dK V b kv p c L ks w):Below V.heap.size V w:=h.rng.row.bel
theorem dK.on (h:dK V b kv p c L ks w) (a:Below w.heap.size w w'):dK V b kv p c L ks w':=⟨h.ge,mU h.box a,h.key.on a,h.rng.on a⟩
theorem dK.more (h:dK V b kv p c L ks w) (j:w.grownBy w' (Value.slice p L.length c).ownBlock) (a:jL V.heap.size V (.slice (some ⟨g,0,none⟩) (L++[x]).length c') (L++[x]) w'):w'.heap[b]? = some (.cells #[kv,.slice p L.length c] 49 (0,0))/\dK V b kv (some ⟨g,0,none⟩) c' (L++[x]) ks (w'.setCell ⟨b,1,none⟩ (.slice (some ⟨g,0,none⟩) (L++[x]).length c')):=by
 have m:=h.rng.row.own;have n:b<w.z:=(gA h.box).1
 have d:w'.heap[b]? = some (oc #[kv,sc p L.length c] 49):=by
  refine (j.block b n fun e=>?_).trans h.box;obtain ⟨c1,i⟩:=zV (show w.ownsRow V.z KRx.T KRx.k (sc p L.length c) L.length (KRx.cells L) from m) e.symm;rw [h.box] at i;injection i with i
  injection i with _ e3
  exact absurd e3 (by decide)
 refine ⟨d,⟨h.ge,xaa _ b 1 _ _ _ d,?_,?_⟩⟩
 ·obtain ⟨p1,c1,e,o⟩:=h.key;refine sH.mset ⟨p1,c1,e,?_⟩ d _ _;exact mA (show w.ownsRow V.z KK.T KK.k (sc p1 ks.length c1) ks.length (KK.cells ks) from o) (show w.ownsRow V.z KRx.T KRx.k (sc p L.length c) L.length (KRx.cells L) from m) (by decide) j
 exact ⟨⟨gG a.row.own d (by decide) _ _,a.row.bel.setCell (p:=(aa b 1)) h.ge _,by rw [World.size_setCell];exact a.row.base⟩,fun r l=>⟨gG (a.each r l).1 d (by decide) _ _,(a.each r l).2⟩,a.apart⟩
theorem dK.post {j:World} {a:Nat} {n:Mk} {i:Option Addr} {e:Nat} (h:dK V b (.slice i ks.length e) p c L ks w) (l:Below j.heap.size j V) (q:j.heap.size<=a) (d:a<V.heap.size) (y:n=(ks,L.map Rx.rg)):mC j n (.returned (.agg #[.slice i ks.length e,.slice p L.length c])) ((w.setCell ⟨a,0,none⟩ (.slice i ks.length e)).setCell ⟨a,1,none⟩ (.slice p L.length c)):=by
 have m:j.z<=V.z:=l.size;obtain ⟨C,B,t,o⟩:=(h.key.cell d 0 (sc i ks.length e)).cell d 1 (sc p L.length c);rw [<-t] at o;refine ⟨⟨i,e,ks,p,c,L⟩,rfl,⟨zC.own_weak o m,zC.own_weak (wC (wC h.rng.row.own d _ _) d _ _) m,fun r s=>⟨zC.own_weak (wC (wC (h.rng.each r s).1 d _ _) d _ _) m,(h.rng.each r s).2⟩,h.rng.apart⟩,?_,?_⟩
 ·rw [y];rfl
 have A:=zA l l.size h.bel;exact (A.setCell (p:=(aa a 0)) q _).setCell (p:=(aa a 1)) q _
end
structure bA (V:World) (b:Nat) (kv:Value) (p:Option Addr) (c:Nat) (L:List Rx) (ks:List Ky) (rt:ByteArray) (rv:Value) (tm:List Tm) (Q:Nat) (k:Nat) (f:Bool) (t25 t27 t28 t29 t30:Value) (w:World):Prop where
 rm:k<=2->dK V b kv p c L ks w
 qb:w.heap[Q]? = some (.cells #[.string rt,rv] 124 (0,0))
 f25:f=true->t25=.slice p L.length c
 o27:1<=k->k<=2->∃p1 c1,t27=.agg #[.string rt,.slice p1 tm.length c1]/\KM.Own V.heap.size w (.slice p1 tm.length c1) tm/\(∀r∈L,∀j,r.sl.ownBlock=some j->¬ (Value.slice p1 tm.length c1).ownBlock=some j)/\(k=2->∃B,t28=.slice (some ⟨B,0,none⟩) 1 1/\w.heap[B]? = some (.cells #[.string rt,.slice p1 tm.length c1] 124 (0,0)))
 m29:3<=k->∃g c' x,x.rg=(rt,tm)/\t29=.slice (some ⟨g,0,none⟩) (L++[x]).length c'/\(k<=4->w.heap[b]? = some (.cells #[kv,.slice p L.length c] 49 (0,0))/\dK V b kv (some ⟨g,0,none⟩) c' (L++[x]) ks (w.setCell ⟨b,1,none⟩ (.slice (some ⟨g,0,none⟩) (L++[x]).length c')))/\(5<=k->dK V b kv (some ⟨g,0,none⟩) c' (L++[x]) ks w)
 p30:4<=k->t30=.pointer (some ⟨b,1,none⟩)
 d25:3<=k->f=true
section
variable {V:World} {b:Nat} {kv:Value} {p:Option Addr} {c:Nat} {L:List Rx} {ks:List Ky} {rt:ByteArray} {rv:Value} {tm:List Tm} {Q k:Nat} {f:Bool} {t25 t27 t28 t29 t30:Value} {w w':World}
theorem zMu (h:dK V b kv p c L ks w) (hq:w.heap[Q]? = some (.cells #[.string rt,rv] 124 (0,0))) (tm:List Tm) (t25 t27 t28 t29 t30:Value):bA V b kv p c L ks rt rv tm Q 0 false t25 t27 t28 t29 t30 w:=⟨fun _=>h,hq,(fun h=>by cases h),(fun h=>by omega),(fun h=>by omega),(fun h=>by omega),(fun h=>by omega)⟩
theorem zSP (h:bA V b kv p c L ks rt rv tm Q k false t25 t27 t28 t29 t30 w):bA V b kv p c L ks rt rv tm Q k true (.slice p L.length c) t27 t28 t29 t30 w:=⟨h.rm,h.qb,fun _=>rfl,h.o27,h.m29,h.p30,fun _=>rfl⟩
theorem zSB (h:bA V b kv p c L ks rt rv tm Q 0 f t25 t27 t28 t29 t30 w) (d:Below w.heap.size w w') (a:KM.Own w.heap.size w' (.slice p1 tm.length c1) tm):bA V b kv p c L ks rt rv tm Q 1 f t25 (.agg #[.string rt,.slice p1 tm.length c1]) t28 t29 t30 w':=⟨fun _=>(h.rm (by omega)).on d,mU h.qb d,h.f25,fun _ _=>⟨p1,c1,rfl,zC.own_weak a (h.rm (by omega)).bel.size,(h.rm (by omega)).rng.fresh (x:=⟨rt,p1,c1,tm⟩) a,(fun h=>by omega)⟩,(fun h=>by omega),(fun h=>by omega),(fun h=>by omega)⟩
theorem zSL (h:bA V b kv p c L ks rt rv tm Q 1 f t25 (.agg #[.string rt,.slice p1 tm.length c1]) t28 t29 t30 w):bA V b kv p c L ks rt rv tm Q 2 f t25 (.agg #[.string rt,.slice p1 tm.length c1]) (.slice (some ⟨w.heap.size,0,none⟩) 1 1) t29 t30 (w.alloc (.cells #[.string rt,.slice p1 tm.length c1] 124)):=by
 have a:=kK w (.cells #[tq rt,sc p1 tm.length c1] 124);obtain ⟨i,d,e,l,j,_⟩:=h.o27 (by omega) (by omega);have m:Value.slice p1 tm.length c1=sc i tm.length d:=by simpa using e
 refine ⟨fun _=>(h.rm (by omega)).on a,mU h.qb a,h.f25,fun _ _=>⟨p1,c1,rfl,?_,?_,fun _=>⟨_,rfl,xab w _⟩⟩,(fun h=>by omega),(fun h=>by omega),(fun h=>by omega)⟩
 ·grind [zC.own_on]
 grind
theorem zSR (h:bA V b kv p c L ks rt rv tm Q 2 true t25 t27 t28 t29 t30 w) (o:x.rg=(rt,tm)) (i:KM.Own V.heap.size w x.sl x.tm) (m:zBh x.tm) (l:∀r∈L,∀j,r.sl.ownBlock=some j->¬ x.sl.ownBlock=some j) (q:∀j,(Value.slice p L.length c).ownBlock=some j->j<Q)
  (hst:yG KRx V.heap.size V (.slice (some ⟨g,0,none⟩) (L.length+1) c') (L++[x]) w') (hg:w.grownBy w' (Value.slice p L.length c).ownBlock):bA V b kv p c L ks rt rv tm Q 3 true t25 t27 t28 (.slice (some ⟨g,0,none⟩) (L.length+1) c') t30 w':=by
 have d:=h.rm (by omega);have a:(L++[x]).length=L.length+1:=by simp
 have n:=d.more (g:=g) (c':=c') (x:=x) hg (by rw [a];exact d.rng.push i m l hst hg);refine ⟨(fun h=>by omega),?_,h.f25,(fun _ h=>by omega),fun _=>⟨g,c',x,o,by rw [a],fun _=>n,(fun h=>by omega)⟩,(fun h=>by omega),fun _=>rfl⟩;refine (hg.block Q (gA h.qb).1 fun e=>?_).trans h.qb
 grind
theorem zRw (h:bA V b kv p c L ks rt rv tm Q 3 f t25 t27 t28 t29 t30 w):bA V b kv p c L ks rt rv tm Q 4 f t25 t27 t28 t29 (.pointer (some ⟨b,1,none⟩)) w:=by
 obtain ⟨g,c',x,d,a,e,_⟩:=h.m29 (by omega);exact ⟨(fun h=>by omega),h.qb,h.f25,(fun _ h=>by omega),fun _=>⟨g,c',x,d,a,fun _=>e (by omega),(fun h=>by omega)⟩,fun _=>rfl,fun _=>h.d25 (by omega)⟩
theorem zRv (h:bA V b kv p c L ks rt rv tm Q 4 f t25 t27 t28 t29 t30 w) (e:b<Q):bA V b kv p c L ks rt rv tm Q 5 f t25 t27 t28 t29 t30 (w.setCell ⟨b,1,none⟩ t29):=by
 obtain ⟨g,c',x,d,a,i,_⟩:=h.m29 (by omega);refine ⟨(fun h=>by omega),?_,h.f25,(fun _ h=>by omega),fun _=>⟨g,c',x,d,a,(fun h=>by omega),fun _=>?_⟩,fun _=>h.p30 (by omega),fun _=>h.d25 (by omega)⟩
 ·rw [xaC _ _ Q _ (by grind)];exact h.qb
 grind
end
theorem zF2 (m:Mx) (r:Rx) (w:World) (hm:MIn w m) (hw:zN3 m) (hr:r.at w):CC 133 #[.agg (xE m).toArray,.string r.typ,r.sl] w fun e w'=>mC w (sU m.mk' r.rg) e w':=by
 obtain ⟨i0,bf,bb,bd,bm⟩:=xaL zCd;have bo:=hid bf;obtain ⟨hbV,J,X,hs⟩:=vP w (xE m).toArray #[sc none 0 0,sc none 0 0] 49 49;obtain ⟨V,hV⟩:=eE ((w.alloc (.cells (xE m).toArray 49)).alloc (.cells #[sc none 0 0,sc none 0 0] 49));obtain ⟨M,hM⟩:=eE w.heap.size;rw [hV] at hbV J X hs;rw [hM] at J X hs;have w1:=hw.1;have w2:=hw.2
 have E:Hid (∀i,Below V.drew.heap.size V.drew i->Bw w i/\(i.cell? (aa M 0)=some m.ksl/\i.cell? (aa M 1)=some m.rsl)/\i.heap[M+1]? = some (oc #[sc none 0 0,sc none 0 0] 49)):=fun i s=>by
  have e1:=(s.block M (by simp_all)).trans J;exact ⟨zA hbV hbV.size ((zG (zaR _ V) 1).trans s),⟨by rw [zaC e1];rfl,by rw [zaC e1];rfl⟩,(s.block (M+1) (by simp_all)).trans X⟩
 have H:Hid (∀i,Below V.drew.heap.size V.drew i->MIn i m/\r.at i):=fun i s=>⟨hm.on (E.o i s).1,hr.on (E.o i s).1⟩
 have ba:Hid (∀i,Below V.drew.heap.size V.drew i->CC 190 #[m.ksl] i fun e w'=>bQ i m.ks e w'):=fun i s=>zBg m.ksl m.ks i (H.o i s).1.keys (by omega)
 have bi:Hid (∀i,Below V.drew.heap.size V.drew i->CC 179 #[m.rsl] i fun e w'=>zC2 i (m.rs.map Rx.rg) e w'):=fun i s=>dW m.rsl m.rs i (H.o i s).1.rows (H.o i s).1.each (by omega)
 have ap:Hid (∀i,Below V.drew.heap.size V.drew i->CC 152 #[m.rsl,.agg (yQ r).toArray] i fun e w'=>e=.returned (.bool ((m.rs.map Rx.rg).any fun x=>decide (x=r.rg)))/\Bw i w'):=fun i s=>zCL m.rsl m.rs r i (H.o i s).1.rows (by omega) (H.o i s).1.each (H.o i s).2
 have be:Hid (∀i,Below V.drew.heap.size V.drew i->CC 153 #[.agg (yQ r).toArray] i fun e w'=>zFG i r e w'):=fun i s=>bM r i (H.o i s).2
 have au:Hid (Bw w V.drew):=(E.o V.drew (zaR _ _)).1;have HF:=hid hr.2;obtain ⟨B,hB⟩:=eE (((m.rs.map Rx.rg).any fun x=>decide (x=r.rg)));rw [hB] at ap;have an:Hid (sU m.mk' r.rg=(m.ks,wZ (m.rs.map Rx.rg) r.rg)):=rfl;have bh:Hid ((m.rs.map Rx.rg).length=m.rs.length):=by show _=_;rw [zaM]
 have am:=hid hB;obtain ⟨⟨a0,a1⟩,_⟩:=(E.o V.drew (zaR _ _)).2;have aq:M+1<V.drew.heap.size:=by show M+1<V.heap.size;omega
 obtain ⟨kp,kc,ks,rp,rc,rs⟩:=m;obtain ⟨rt,tp,tc,tm⟩:=r;simp only [xE,yQ,Mx.ksl,Mx.rsl,Rx.sl] at *
 generalize sU _ _=RM at *
 generalize rs.map Rx.rg=rg at *
 obtain ⟨rr,av⟩:=eE ((⟨rt,tp,tc,tm⟩:Rx).rg);rw [av] at an am;have bp:=hid av;go_enter func133,ntmps133;go_wp2_with fail;(try rw [hV]);(try rw [hM]);refine tkb (S:=fun w'=>w'.cell? (aa M 0)=some (sc kp ks.length kc)/\w'.cell? (aa M 1)=some (sc rp rs.length rc)) ⟨a0,a1⟩ fun c=>?_;refine tkv4 0 1 3 4 (jp M) (sc kp ks.length kc) (.pointer (some (aa M 1))) (sc rp rs.length rc) c ?_;simp only [Act.put,sz];refine uR [2,5,6,8] [7] (fun a0 k t a w'=>∃t7 t11 t14 t15,a=wL a0 [(7,t7),(11,t11),(14,t14),(15,t15)]/\bH V.drew ks rg k (t.headD false) t7 t11 t14 t15 w') (by kernel_rfl) (by decide) ⟨_,_,_,_,(pI _ [7,11,14,15]).symm,zMr _ _ _ _ _ _ _⟩ ?hS ?hmain ?halloc ?hend
 case hS =>
  rintro k t a w' ⟨t7,t11,t14,t15,rfl,d⟩;exact (E.o w' d.bel).2.1
 case hmain =>
  rintro k z t a w' hk G aj ⟨t7,t11,t14,t15,rfl,d⟩
  obtain ⟨l,rfl⟩:∃l,t=[l]:=by
   match t,G with
   | [l],_=>grind
  simp only [xbK] at d ⊢
  rcases k with _|_|_|_|k
  ·obtain rfl:z=2:=by grind
   have W:=hid (ba.o w' d.bel);have ab:=hid d;refine ⟨_,zB rfl,fun K n=>?_⟩;simp only [wL,xal,xaq,Act.put,sz];rw [xae (by rfl)]
   go_simp
   refine W.o.mono ?_;rintro e w2 hp;obtain ⟨u,rfl,ho,hb2⟩:=zDP hp;have q:=hid (zRj ab.o hb2 ho);go_wp2_with fail;exact n.out _ _ ⟨t7,u,t14,t15,rfl,q.o⟩
  ·obtain rfl:z=5:=by grind
   have W:=hid (bi.o w' d.bel);have ab:=hid d;refine ⟨_,zB rfl,fun K n=>?_⟩;simp only [wL,xal,xaq,Act.put,sz];rw [xae (by rfl)]
   go_simp
   refine W.o.mono ?_;rintro e w2 hp;obtain ⟨u,rfl,ho,hb2⟩:=zDN hp;have q:=hid (zSI ab.o hb2 ho);go_wp2_with fail;exact n.out _ _ ⟨t7,t11,u,t15,rfl,q.o⟩
  ·obtain rfl:z=6:=by grind
   obtain ⟨p1,c1,rfl,_⟩:=d.k11 (by omega);obtain ⟨p2,c2,L2,rfl,_⟩:=d.r14 (by omega);have q:=hid (zRi d);refine ⟨_,zB rfl,fun K n=>?_⟩;simp only [wL,xal,xaq,Act.put,sz];rw [xae (by rfl)]
   go_simp
   go_wp2_with fail
   exact n.out _ _ ⟨t7,_,_,_,rfl,q.o⟩
  ·obtain rfl:z=8:=by grind
   cases l with
   | false=>exact (sP aj (by kernel_rfl)).elim
   | true =>
   obtain ⟨p1,c1,rfl,_⟩:=d.k11 (by omega);obtain ⟨p2,c2,L2,rfl,_⟩:=d.r14 (by omega);obtain rfl:=d.b15 (by omega);obtain ⟨b,rfl,_,A⟩:=d.box0 rfl (by omega);have q0:w'.cell? (aa b 0)=some (sc none 0 0):=cz A;have Y:w'.cell? (aa b 1)=some (sc none 0 0):=cz A;have r0:w'.frozen? (aa b 0)=false:=zaF A 0;have r1:w'.frozen? (aa b 1)=false:=zaF A 1;have q:=hid (zSC d);refine ⟨_,zB rfl,fun K n=>?_⟩;simp only [wL,xal,xaq,Act.put,sz];rw [xae (by rfl)]
   go_simp
   go_wp2_with fail
   exact n.out _ _ ⟨_,_,_,_,rfl,q.o⟩
  ·simp at hk
 case halloc =>
  rintro j z k t a w' hj hk G hf ⟨t7,t11,t14,t15,rfl,d⟩
  obtain ⟨l,rfl⟩:∃l,t=[l]:=by
   match t,G with
   | [l],_=>grind
  rcases j with _|j
  ·obtain rfl:z=7:=by grind
   obtain rfl:l=false:=by grind
   simp only [xbK,xbP] at d ⊢;have q:=hid (zRh d);refine ⟨_,zB rfl,fun K n=>?_⟩;simp only [wL,xal,xaq,Act.put,sz];rw [xae (by rfl)]
   go_simp
   go_wp2_with fail
   exact n.out _ _ ⟨_,t11,t14,t15,rfl,q.o⟩
  ·simp at hj
 case hend =>
  rintro a R ⟨t7,t11,t14,t15,rfl,d⟩;obtain ⟨p2,c2,rfl,_⟩:=d.k11 (by decide);obtain ⟨p3,c3,L3,rfl,ho3,he3,ha3,hm3⟩:=d.r14 (by decide);obtain ⟨b,rfl,hge,A⟩:=d.box4 (by decide);have bc:dK V.drew b (sc p2 ks.length c2) p3 c3 L3 ks R:=⟨hge,A,d.k11 (by decide),⟨⟨ho3,d.bel,d.bel.size⟩,he3,ha3⟩⟩;obtain ⟨Q,hQ⟩:=eE R.heap.size
  have bu:L3.length<=3518437208800:=by
   have J:=xad List.length hm3;rw [zaM,bh.o] at J;omega
  have bj:b<Q:=by rw [<-hQ];exact (gA A).1
  have bg:Hid (∀j,(Value.slice p3 L3.length c3).ownBlock=some j->j<Q):=fun j hj=>by rw [<-hQ];exact (zaW (show R.ownsRow V.drew.heap.size KRx.T KRx.k (sc p3 L3.length c3) L3.length (KRx.cells L3) from ho3) j hj).2
  obtain ⟨P,ah⟩:=eE (R.alloc (.cells #[tq rt,sc tp tm.length tc] 124));have bq:Bw R P:=by rw [<-ah];exact kK _ _
  have ak:P.heap[Q]? = some (oc #[tq rt,sc tp tm.length tc] 124):=by rw [<-ah,<-hQ];exact xab R _
  have ai:=bc.on bq;have aw:=hid ai;have HH:=hid (ap.o P ai.bel);obtain ⟨_,x1⟩:=(E.o P ai.bel).2.1;have y0:P.cell? (aa Q 0)=some (tq rt):=cz ak;have y1:P.cell? (aa Q 1)=some (sc tp tm.length tc):=cz ak;have bn:=hid ak;have ao:=hid hm3;simp only [wL,xal,xaq,Act.put,sz];go_upto_region 3 with fail
  (try rw [hQ]);(try rw [ah])
  cases B with
  | true =>
   have HP:=hid (zKE am.o);go_wp2_with fail;refine HH.o.mono ?_;rintro e y ⟨rfl,ag⟩;have U:=aw.o.on ag;have f0:y.cell? (aa b 0)=some (sc p2 ks.length c2):=by rw [zaC U.box];rfl
   have l:y.cell? (aa b 1)=some (sc p3 L3.length c3):=by rw [zaC U.box];rfl
   have ae:=(E.o y U.bel).2.2;have q0:y.cell? (aa (M+1) 0)=some (sc none 0 0):=cz ae;have Y:y.cell? (aa (M+1) 1)=some (sc none 0 0):=cz ae;have r0:y.frozen? (aa (M+1) 0)=false:=zaF ae 0;have r1:y.frozen? (aa (M+1) 1)=false:=zaF ae 1;have Z:Hid (mC w RM (.returned (.agg #[sc p2 ks.length c2,sc p3 L3.length c3])) ((y.setCell (aa (M+1) 0) (sc p2 ks.length c2)).setCell (aa (M+1) 1) (sc p3 L3.length c3))):=U.post au.o (by omega) aq (by rw [an.o,HP.o,ao.o]);obtain ⟨W6,D⟩:=eE ((y.setCell (aa (M+1) 0) (sc p2 ks.length c2)).setCell (aa (M+1) 1) (sc p3 L3.length c3));rw [D] at Z;have I:W6.cell? (aa (M+1) 0)=some (sc p2 ks.length c2):=by rw [<-D];simp [go_sem,q0]
   have F:W6.cell? (aa (M+1) 1)=some (sc p3 L3.length c3):=by rw [<-D];simp [go_sem,Y]
   have HG:=hid (xbf I F);go_wp2_with fail;(try rw [D]);obtain ⟨I,F⟩:=HG.o;exact zaB (v:=.agg #[sc p2 ks.length c2,sc p3 L3.length c3]) (by simp [results,results133,go_sem,I,F]) rfl Z.o
  | false =>
   have HP:=hid (zHB am.o);go_wp2_with fail;refine HH.o.mono ?_;rintro e y ⟨rfl,ag⟩;have U:=aw.o.on ag;have al:=mU bn.o ag;have z0:y.drew.cell? (aa Q 0)=some (tq rt):=by rw [zaC (show y.drew.heap[Q]? = _ from al)];rfl
   have z1:y.drew.cell? (aa Q 1)=some (sc tp tm.length tc):=by rw [zaC (show y.drew.heap[Q]? = _ from al)];rfl
   have bs:Hid (dK V.drew b (sc p2 ks.length c2) p3 c3 L3 ks y.drew):=U.on (zG (zaR _ _) 1);have br:Hid (y.drew.heap[Q]? = some (oc #[tq rt,sc tp tm.length tc] 124)):=al;go_wp2_with fail;refine tkb (S:=fun w'=>w'.cell? (aa Q 0)=some (tq rt)/\w'.cell? (aa Q 1)=some (sc tp tm.length tc)) ⟨z0,z1⟩ fun c=>?_;refine tkv2 0 2 (.pointer (some (aa b 1))) (.agg #[tq rt,sc tp tm.length tc]) c ?_;simp only [Act.put,sz];refine uR [3,4,5,6,7] [1] (fun a0 k t a w'=>∃t25 t27 t28 t29 t30,a=wL a0 [(25,t25),(27,t27),(28,t28),(29,t29),(30,t30)]/\bA V.drew b (sc p2 ks.length c2) p3 c3 L3 ks rt (sc tp tm.length tc) tm Q k (t.headD false) t25 t27 t28 t29 t30 w') (by kernel_rfl) (by decide) ⟨_,_,_,_,_,(pI _ [25,27,28,29,30]).symm,zMu bs.o br.o tm _ _ _ _ _⟩ ?hS ?hmain ?halloc ?hend
   case hS =>
    rintro k t a w' ⟨t25,t27,t28,t29,t30,rfl,d⟩;exact ⟨by rw [zaC d.qb];rfl,by rw [zaC d.qb];rfl⟩
   case hmain =>
    rintro k z t a w' hk G aj ⟨t25,t27,t28,t29,t30,rfl,d⟩
    obtain ⟨l,rfl⟩:∃l,t=[l]:=by
     match t,G with
     | [l],_=>grind
    simp only [xbK] at d ⊢
    rcases k with _|_|_|_|_|k
    ·obtain rfl:z=3:=by grind
     have W:=hid (be.o w' (d.rm (by omega)).bel);have ab:=hid d;refine ⟨_,zB rfl,fun K n=>?_⟩;simp only [wL,xal,xaq,Act.put,sz];rw [xae (by rfl)]
     go_simp
     refine W.o.mono ?_;rintro e w6 ⟨p1,c1,rfl,ar,az⟩;have q:=hid (zSB ab.o az ar);simp only at ar ⊢;go_wp2_with fail;exact n.out _ _ ⟨t25,_,t28,t29,t30,rfl,q.o⟩
    ·obtain rfl:z=4:=by grind
     obtain ⟨p1,c1,rfl,_⟩:=d.o27 (by omega) (by omega);have q:=hid (zSL d);refine ⟨_,zB rfl,fun K n=>?_⟩;simp only [wL,xal,xaq,Act.put,sz];rw [xae (by rfl)]
     go_simp
     go_wp2_with fail
     exact n.out _ _ ⟨t25,_,_,t29,t30,rfl,q.o⟩
    ·obtain rfl:z=5:=by grind
     cases l with
     | false=>exact (sP aj (by kernel_rfl)).elim
     | true =>
     obtain rfl:=d.f25 rfl;obtain ⟨p1,c1,rfl,hox,hfr,hB⟩:=d.o27 (by omega) (by omega);obtain ⟨BB,rfl,hBB⟩:=hB rfl;have ax:=hid hBB;have bk:=hid (d.rm (by omega)).rng.row;have bl:Hid (∀g c' ad,yG KRx V.drew.heap.size V.drew (sc (some (aa g 0)) (L3.length+1) c') (L3++[⟨rt,p1,c1,tm⟩]) ad->w'.grownBy ad (Value.slice p3 L3.length c3).ownBlock->bA V.drew b (sc p2 ks.length c2) p3 c3 L3 ks rt (sc tp tm.length tc) tm Q 3 true (sc p3 L3.length c3) (.agg #[tq rt,sc p1 tm.length c1]) (sc (some (aa BB 0)) 1 1) (sc (some (aa g 0)) (L3.length+1) c') t30 ad):=fun g c' ad J X=>zSR (x:=⟨rt,p1,c1,tm⟩) d rfl hox HF.o hfr bg.o J X
     refine ⟨_,zB rfl,fun K n=>?_⟩;simp only [wL,xal,xaq,Act.put,sz];rw [xae (by rfl)];refine zKM KRx rfl _ _ 47 rfl i0 _ 40 underlying47 bo.o bb bd bm rfl V.drew.heap.size V.drew (sc p3 L3.length c3) L3 rfl bk.o ⟨rt,p1,c1,tm⟩ BB _ _ rfl rfl _ _ ax.o (by unfold maxLen;omega) (by omega) ?_;intro g8 c8 C bt ay _;exact n.out _ _ ⟨_,_,_,_,t30,rfl,bl.o g8 c8 C bt ay⟩
    ·obtain rfl:z=6:=by grind
     have q:=hid (zRw d);refine ⟨_,zB rfl,fun K n=>?_⟩;simp only [wL,xal,xaq,Act.put,sz];rw [xae (by rfl)]
     go_simp
     go_wp2_with fail
     exact n.out _ _ ⟨t25,t27,t28,t29,_,rfl,q.o⟩
    ·obtain rfl:z=7:=by grind
     obtain ⟨g,c',x,_,rfl,h3,_⟩:=d.m29 (by omega);obtain rfl:=d.p30 (by omega);have A:=(h3 (by omega)).1;have Y:w'.cell? (aa b 1)=some (sc p3 L3.length c3):=cz A;have r1:w'.frozen? (aa b 1)=false:=zaF A 1;have q:=hid (zRv d bj);refine ⟨_,zB rfl,fun K n=>?_⟩;simp only [wL,xal,xaq,Act.put,sz];rw [xae (by rfl)]
     generalize (L3++[x]).length=LL at *
     go_simp
     go_wp2_with fail
     exact n.out _ _ ⟨t25,t27,t28,_,_,rfl,q.o⟩
    ·simp at hk
   case halloc =>
    rintro j z k t a w' hj hk G hf ⟨t25,t27,t28,t29,t30,rfl,d⟩
    obtain ⟨l,rfl⟩:∃l,t=[l]:=by
     match t,G with
     | [l],_=>grind
    rcases j with _|j
    ·obtain rfl:z=1:=by grind
     obtain rfl:l=false:=by grind
     simp only [xbK,xbP] at d ⊢;have bv:¬ 3<=k:=fun h=>by have:=d.d25 h;cases this
     have A:=(d.rm (by omega)).box;have l:w'.cell? (aa b 1)=some (sc p3 L3.length c3):=cz A;have q:=hid (zSP d);refine ⟨_,zB rfl,fun K n=>?_⟩;simp only [wL,xal,xaq,Act.put,sz];rw [xae (by rfl)]
     go_simp
     go_wp2_with fail
     exact n.out _ _ ⟨_,t27,t28,t29,t30,rfl,q.o⟩
    ·simp at hj
   case hend =>
    rintro a C ⟨t25,t27,t28,t29,t30,rfl,d⟩;obtain ⟨g,c',x,hxr,rfl,_,h5⟩:=d.m29 (by decide);have ac:=h5 (by decide);have f0:C.cell? (aa b 0)=some (sc p2 ks.length c2):=by rw [zaC ac.box];rfl
    have l:C.cell? (aa b 1)=some (sc (some (aa g 0)) (L3++[x]).length c'):=by rw [zaC ac.box];rfl
    have af:=(E.o C ac.bel).2.2;have q0:C.cell? (aa (M+1) 0)=some (sc none 0 0):=cz af;have Y:C.cell? (aa (M+1) 1)=some (sc none 0 0):=cz af;have r0:C.frozen? (aa (M+1) 0)=false:=zaF af 0;have r1:C.frozen? (aa (M+1) 1)=false:=zaF af 1;have Z:Hid (mC w RM (.returned (.agg #[sc p2 ks.length c2,sc (some (aa g 0)) (L3++[x]).length c'])) ((C.setCell (aa (M+1) 0) (sc p2 ks.length c2)).setCell (aa (M+1) 1) (sc (some (aa g 0)) (L3++[x]).length c'))):=ac.post au.o (by omega) aq (by rw [an.o,HP.o,xak,ao.o,<-bp.o];show _=(ks,rg++[x.rg]);rw [hxr];rfl)
    generalize (L3++[x]).length=LL at *
    obtain ⟨W6,D⟩:=eE ((C.setCell (aa (M+1) 0) (sc p2 ks.length c2)).setCell (aa (M+1) 1) (sc (some (aa g 0)) LL c'));rw [D] at Z;have I:W6.cell? (aa (M+1) 0)=some (sc p2 ks.length c2):=by rw [<-D];simp [go_sem,q0]
    have F:W6.cell? (aa (M+1) 1)=some (sc (some (aa g 0)) LL c'):=by rw [<-D];simp [go_sem,Y]
    have HG:=hid (xbf I F);simp only [wL,xal,xaq,Act.put,sz];go_wp2_with fail;(try rw [D]);obtain ⟨I,F⟩:=HG.o;exact zaB (v:=.agg #[sc p2 ks.length c2,sc (some (aa g 0)) LL c']) (by simp [results,results133,go_sem,I,F]) rfl Z.o
end
def QD:sO Dx where
 E N w x:=kG N w x/\SzD x.m x.cs/\(0<=x.snap/\x.snap<=18446744073709551615)/\0<=x.stamp/\x.stamp<=18446744073709551615
 Blk x k:=gE x k
 fr h f hP:=⟨h.1.frB f hP,h.2⟩
 blk h k hk:=h.1.blk k hk
 weak h hM:=⟨h.1.weak hM,h.2⟩
theorem fN {α:Type} {K:zC α} {N:Nat} {w a:World} {v:Value} {d:List α} {P:Nat->Prop} (h:K.Own N w v d) (f:Fr P w a) (c:∀k,P k->k<N):K.Own N a v d:=f.row (show w.ownsRow N K.T K.k v d.length (K.cells d) from h) fun k b g=>by
  have e:=(zaW (show w.ownsRow N K.T K.k v d.length (K.cells d) from h) k b).1
  grind
theorem zMe (x:Dx) (w:World) (hx:DIn w x):CC 168 #[.agg (yN x).toArray] w fun e S=>uU KDx QD Dx.dn w x.dn e S:=by
 obtain ⟨aq,h1,h2,hs⟩:=vP w (yN x).toArray #[iu 0,iu 0,.bool false,sc none 0 0,sc none 0 0,sc none 0 0] 131 131;obtain ⟨V,hV⟩:=eE ((w.alloc (.cells (yN x).toArray 131)).alloc (.cells #[iu 0,iu 0,.bool false,sc none 0 0,sc none 0 0,sc none 0 0] 131));obtain ⟨M,hM⟩:=eE w.heap.size;rw [hV] at aq h1 h2 hs;rw [hM] at h1 h2 hs;have K:=hid hx;have ad:Hid (∀W,Bw w W->MIn W x.m/\dX W x.csl x.cs):=fun W H=>⟨hx.mrk.on H,hx.chg.on H⟩
 have ah:=hid aq;obtain ⟨q,p,t,⟨ac,ae,f,Y,X,G⟩,P,N,C⟩:=x;have bc:=hid (zBg (sc ac f.length ae) f V (ad.o V ah.o).1.keys (by have:=K.o.sz.keys;simp only at this;omega));have bb:Hid (∀W,Bw w W->CC 216 #[sc Y G.length X,.func (.func 217) #[] #[]] W fun e S=>pX KRx QR Rx.rg W (G.map Rx.rg) e S):=fun W H=>zLU _ G W (ad.o W H).1.rows (ad.o W H).1.each (by have:=K.o.sz.rows;simp only at this;omega)
 have au:Hid (∀W,Bw w W->CC 218 #[sc P C.length N,.func (.func 219) #[] #[]] W fun e S=>pX KCx QC Cx.ch W (C.map Cx.ch) e S):=fun W H=>zMB _ C W (ad.o W H).2 (by have:=K.o.sz.chg;simp only at this;omega)
 simp only [yN,Mx.ksl,Mx.rsl,Dx.csl] at *;have a3:V.cell? (aa M 3)=some (sc ac f.length ae):=cz h1;have ay:=hid h1;have bd:=hid h2;go_enter func168,ntmps168;go_wp2_with fail;(try rw [hV]);(try rw [hM]);refine bc.o.mono ?_;rintro e Z ⟨u1,rfl,al,U⟩;obtain ⟨p1,c1,rfl⟩:=zC.own_shape al;have A:=(U.block M (by omega)).trans ay.o;have D:=(U.block (M+1) (by omega)).trans bd.o;obtain ⟨W1,hW1⟩:∃W',Z.setCell (aa M 3) (sc p1 f.length c1)=W':=⟨_,rfl⟩;have n:W1.heap[M]? = some (oc #[iu q,iu p,.bool t,sc p1 f.length c1,sc Y G.length X,sc P C.length N] 131):=by rw [<-hW1];exact xaa _ M 3 _ _ _ A
 have h:Fr (fun b=>b=M) Z W1:=by rw [<-hW1];exact xB Z M 3 _
 have s:W1.heap[M+1]? = some (oc #[iu 0,iu 0,.bool false,sc none 0 0,sc none 0 0,sc none 0 0] 131):=(h.block (M+1) (gA D).1 (by omega)).trans D;have af:Hid (Bw w W1):=(zA ah.o ah.o.size U).trans (h.below (by have:=U.size;omega) fun k a=>by omega);have ak:M+2<=W1.heap.size:=by have:=U.size;have:=h.size;omega
 have be:Hid (KK.Own (M+2) W1 (sc p1 f.length c1) f):=by
  have:=fN al h fun k a=>by omega
  rw [hs] at this;exact this
 have av:=hid n;have aw:=hid s;have k0:Z.cell? (aa M 3)=some (sc ac f.length ae):=cz A;have z0:Z.frozen? (aa M 3)=false:=zaF A 3;have d0:W1.cell? (aa M 4)=some (sc Y G.length X):=cz n;have HQ:=hid (bb.o W1 af.o);go_wp2_with fail;(try rw [hW1]);refine HQ.o.mono ?_;rintro e J ⟨i,l,g,rfl,ab,an⟩;have Q:Bw W1 J:=ab.row.bel;have A:=(Q.block M (by omega)).trans av.o;have D:=(Q.block (M+1) (by omega)).trans aw.o;obtain ⟨W2,hW2⟩:∃W',J.setCell (aa M 4) (sc i g.length l)=W':=⟨_,rfl⟩;have n:W2.heap[M]? = some (oc #[iu q,iu p,.bool t,sc p1 f.length c1,sc i g.length l,sc P C.length N] 131):=by rw [<-hW2];exact xaa _ M 4 _ _ _ A
 have h:Fr (fun b=>b=M) J W2:=by rw [<-hW2];exact xB J M 4 _
 have s:W2.heap[M+1]? = some (oc #[iu 0,iu 0,.bool false,sc none 0 0,sc none 0 0,sc none 0 0] 131):=(h.block (M+1) (gA D).1 (by omega)).trans D;have ai:Hid (Bw w W2):=(zA af.o af.o.size Q).trans (h.below (by have:=Q.size;omega) fun k a=>by omega);have ao:M+2<=W2.heap.size:=by have:=Q.size;have:=h.size;omega
 have HN1':Hid (KK.Own (M+2) W2 (sc p1 f.length c1) f):=fN (zC.own_on be.o Q) h fun k a=>by omega
 have aj:Hid (vV KRx QR W1 g i l J/\KRx.Own (M+2) W2 (sc i g.length l) g/\∀r∈g,QR.E (M+2) W2 r) :=
  ⟨ab,zC.own_weak (fN ab.row.own h fun k a=>by omega) ak,fun r I=>QR.weak (QR.fr (ab.each r I).1 h fun k a hp=>by have:=(QR.blk (ab.each r I).1 k a).1;omega) ak⟩
 have ax:=hid n;have az:=hid s;have k0:J.cell? (aa M 4)=some (sc Y G.length X):=cz A;have z0:J.frozen? (aa M 4)=false:=zaF A 4;have d0:W2.cell? (aa M 5)=some (sc P C.length N):=cz n;have HQ:=hid (au.o W2 ai.o);go_wp2_with fail;(try rw [hW2]);refine HQ.o.mono ?_;rintro e L ⟨z,u,j,rfl,R,am⟩;have F:Bw W2 L:=R.row.bel;have A:=(F.block M (by omega)).trans ax.o;have D:=(F.block (M+1) (by omega)).trans az.o;obtain ⟨W3,hW3⟩:∃W',L.setCell (aa M 5) (sc z j.length u)=W':=⟨_,rfl⟩;have n:W3.heap[M]? = some (oc #[iu q,iu p,.bool t,sc p1 f.length c1,sc i g.length l,sc z j.length u] 131):=by rw [<-hW3];exact xaa _ M 5 _ _ _ A
 have h:Fr (fun b=>b=M) L W3:=by rw [<-hW3];exact xB L M 5 _
 have s:W3.heap[M+1]? = some (oc #[iu 0,iu 0,.bool false,sc none 0 0,sc none 0 0,sc none 0 0] 131):=(h.block (M+1) (gA D).1 (by omega)).trans D;have ar:Hid (Bw w W3):=(zA ai.o ai.o.size F).trans (h.below (by have:=F.size;omega) fun k a=>by omega);have bf:M+2<=W3.heap.size:=by have:=F.size;have:=h.size;omega
 have HN1'':Hid (KK.Own (M+2) W3 (sc p1 f.length c1) f):=fN (zC.own_on HN1'.out F) h fun k a=>by omega
 have HN2':Hid (KRx.Own (M+2) W3 (sc i g.length l) g/\∀r∈g,QR.E (M+2) W3 r) :=
  ⟨fN (zC.own_on aj.o.2.1 F) h fun k a=>by omega,fun r I=>by
   have h9:=sO.on (aj.o.2.2 r I) F;exact QR.fr h9 h fun k a hp=>by have:=(QR.blk h9 k a).1;omega⟩
 have T:Hid (KCx.Own (M+2) W3 (sc z j.length u) j/\(∀r∈j,QC.E (M+2) W3 r)/\j.Pairwise fun c d=>∀k,sC c k->¬ sC d k) :=
  ⟨zC.own_weak (fN R.row.own h fun k a=>by omega) ao,fun r I=>QC.weak (QC.fr (R.each r I).1 h fun k a hp=>by have:=(QC.blk (R.each r I).1 k a).1;omega) ao,R.apart⟩
 have bh:=hid n;have bg:=hid s;have k0:L.cell? (aa M 5)=some (sc P C.length N):=cz A;have z0:L.frozen? (aa M 5)=false:=zaF A 5;obtain ⟨B,ag⟩:∃W',((((((W3.setCell (aa (M+1) 0) (iu q)).setCell (aa (M+1) 1) (iu p)).setCell (aa (M+1) 2) (.bool t)).setCell (aa (M+1) 3) (sc p1 f.length c1)).setCell (aa (M+1) 4) (sc i g.length l)).setCell (aa (M+1) 5) (sc z j.length u))=W':=⟨_,rfl⟩
 have O:B.heap[M+1]? = some (oc #[iu q,iu p,.bool t,sc p1 f.length c1,sc i g.length l,sc z j.length u] 131):=by
  rw [<-ag];exact xaa _ (M+1) 5 _ _ _ (xaa _ (M+1) 4 _ _ _ (xaa _ (M+1) 3 _ _ _ (xaa _ (M+1) 2 _ _ _ (xaa _ (M+1) 1 _ _ _ (xaa _ (M+1) 0 _ _ _ (s))))))
 have ap:Fr (fun b=>b=M+1) W3 B:=by
  rw [<-ag];exact ((((((xB W3 (M+1) 0 _).then (xB _ (M+1) 1 _) fun k a=>xac a).then (xB _ (M+1) 2 _) fun k a=>xac a).then (xB _ (M+1) 3 _) fun k a=>xac a).then (xB _ (M+1) 4 _) fun k a=>xac a).then (xB _ (M+1) 5 _) fun k a=>xac a)
 have HD:Hid (QD.E w.heap.size B ⟨q,p,t,⟨p1,c1,f,i,l,g⟩,z,u,j⟩/\Bw w B):=by
  have hd:kG (M+2) W3 ⟨q,p,t,⟨p1,c1,f,i,l,g⟩,z,u,j⟩:=⟨⟨HN1''.out,HN2'.out.1,HN2'.out.2,aj.o.1.apart⟩,T.o.1,T.o.2.1,T.o.2.2⟩;refine ⟨⟨(hd.fr ap fun k a=>by omega).weak (by omega),K.o.sz.same ?_ am fun y hy=>⟨(T.o.2.1 y hy).wcp,(T.o.2.1 y hy).icp⟩,K.o.snap,K.o.stamp⟩,ar.o.trans (ap.below ar.o.size fun k a=>by omega)⟩;show (f,g.map Rx.rg)=(f,G.map Rx.rg);rw [an]
 have ba:Hid ((⟨q,p,t,⟨p1,c1,f,i,l,g⟩,z,u,j⟩:Dx).dn=(⟨q,p,t,⟨ac,ae,f,Y,X,G⟩,P,N,C⟩:Dx).dn):=by
  show _=_
  simp only [Dx.dn,Mx.mk',an,am]
 have d0:W3.cell? (aa M 0)=some (iu q):=cz n;have d1:W3.cell? (aa M 1)=some (iu p):=cz n;have d2:W3.cell? (aa M 2)=some (.bool t):=cz n;have d3:W3.cell? (aa M 3)=some (sc p1 f.length c1):=cz n;have d4:W3.cell? (aa M 4)=some (sc i g.length l):=cz n;have d5:W3.cell? (aa M 5)=some (sc z j.length u):=cz n;have t0:W3.cell? (aa (M+1) 0)=some (iu 0):=cz s;have t1:W3.cell? (aa (M+1) 1)=some (iu 0):=cz s;have t2:W3.cell? (aa (M+1) 2)=some (.bool false):=cz s;have t3:W3.cell? (aa (M+1) 3)=some (sc none 0 0):=cz s;have t4:W3.cell? (aa (M+1) 4)=some (sc none 0 0):=cz s;have t5:W3.cell? (aa (M+1) 5)=some (sc none 0 0):=cz s;have r0:=zaF s;have HE:Hid (B.cell? (aa (M+1) 0)=some (iu q)/\B.cell? (aa (M+1) 1)=some (iu p)/\B.cell? (aa (M+1) 2)=some (.bool t)/\B.cell? (aa (M+1) 3)=some (sc p1 f.length c1)/\B.cell? (aa (M+1) 4)=some (sc i g.length l)/\B.cell? (aa (M+1) 5)=some (sc z j.length u)):=⟨by rw [zaC O];rfl,by rw [zaC O];rfl,by rw [zaC O];rfl,by rw [zaC O];rfl,by rw [zaC O];rfl,by rw [zaC O];rfl⟩;go_upto_region 4 with fail
 (try rw [hW3]);go_wp2_with fail;(try rw [ag]);obtain ⟨g0,g1,g2,g3,g4,g5⟩:=HE.o;exact zaB (v:=.agg #[iu q,iu p,.bool t,sc p1 f.length c1,sc i g.length l,sc z j.length u]) (by simp [results,results168,go_sem,g0,g1,g2,g3,g4,g5]) rfl ⟨⟨q,p,t,⟨p1,c1,f,i,l,g⟩,z,u,j⟩,rfl,HD.o.1,ba.o,HD.o.2⟩
section
variable {l:List Dn} {s:Int} {k:Nat} {m:Mk} {c:List Ch} {out inn a b:Bool} {t:Tk}
structure zAo (l:List Dn) (s:Int) (k:Nat):Prop where
 le:k<=l.length
 low:∀d∈l.take k,d.stamp<=s
 up:∀d∈l.drop k,s<d.stamp
theorem zOv (o:l.Pairwise fun a b=>a.stamp<=b.stamp) (f:k<=l.length) (g:∀d∈l.take k,d.stamp<=s) (j:(h:k<l.length)->s<(l[k]).stamp):zAo l s k:=by
 refine ⟨f,g,fun d p=>?_⟩;obtain ⟨i,hi,rfl⟩:=List.mem_iff_getElem.1 p;rw [xaw] at hi;rw [xaT];have e:k<l.length:=by omega
 have q:=j e
 rcases xbg i with n|n
 ·grind
 have:=List.pairwise_iff_getElem.1 o k (k+i) e (by omega) (by omega);omega
section
variable {l:List Dn} {s:Int} {k:Nat}
theorem zAo.filter (h:zAo l s k):(l.filter fun d=>decide (s<d.stamp))=l.drop k:=by
 have g:((l.take k).filter fun d=>decide (s<d.stamp))=[]:=by
  rw [List.filter_eq_nil_iff];intro d e;have:=h.low d e;simp only [xa5];omega
 have i:((l.drop k).filter fun d=>decide (s<d.stamp))=l.drop k:=by
  rw [List.filter_eq_self];intro d e;exact xas (h.up d e)
 have f:(l.filter fun d=>decide (s<d.stamp))=((l.take k++l.drop k).filter fun d=>decide (s<d.stamp)):=by rw [xbZ]
 rw [f,xaV,g,i,xbe]
theorem zAo.any (h:zAo l s k) (f:Dn->Bool):(l.any fun d=>tX s d&&f d)=(l.drop k).any f:=by
 have i:((l.take k).any fun d=>tX s d&&f d)=false:=by
  rw [xbz];intro d e;have:=h.low d e;unfold tX;rw [xar (by omega)];simp
 have j:((l.drop k).any fun d=>tX s d&&f d)=(l.drop k).any f:=by
  have:∀m:List Dn,(∀d∈m,s<d.stamp)->(m.any fun d=>tX s d&&f d)=m.any f:=fun m=>by grind [tX]
  exact this _ h.up
 have g:(l.any fun d=>tX s d&&f d)=((l.take k++l.drop k).any fun d=>tX s d&&f d):=by rw [xbZ]
 grind
theorem zAo.kept (h:zAo l s k) (t:Tk) (d:t.kept=l):(uS t s).kept=l.drop k:=by
 show t.kept.filter _=_
 rw [d];exact h.filter
end
structure jV (m:Mk) (c:List Ch) (l:List Dn) (out inn:Bool):Prop where
 hout:out=l.any fun d=>xD m d.chg
 hinn:inn=l.any fun d=>xD d.marks c
 deep:(l.any fun d=>xD m d.chg&&d.out)=false
 both:(out&&inn)=false
theorem zNo (m:Mk) (c:List Ch):jV m c [] false false:=⟨rfl,rfl,rfl,rfl⟩
theorem jV.snoc (h:jV m c l out inn) (d:Dn) {a b:Bool} (g:xD m d.chg=a) (e:(inn||xD d.marks c)=b) (i:(a&&d.out)=false) (f:((out||a)&&b)=false):jV m c (l++[d]) (out||a) b:=by
 subst g e;refine ⟨?_,?_,?_,f⟩
 ·rw [xbM,<-h.hout];simp
 ·rw [xbM,<-h.hinn];simp
 rw [xbM,h.deep];grind
theorem jV.clash (h:jV m c l out inn) (d:Dn) (r:List Dn) {a b:Bool} (g:xD m d.chg=a) (f:(inn||xD d.marks c)=b) (e:(a&&d.out)=true∨((out||a)&&b)=true):(((l++d::r).any fun d=>xD m d.chg&&d.out)||(((l++d::r).any fun d=>xD m d.chg)&&(l++d::r).any fun d=>xD d.marks c))=true:=by
 subst g f;rw [xbM,xbM,xbM,List.any_cons,List.any_cons,List.any_cons,h.deep,<-h.hout,<-h.hinn]
 revert e
 generalize xD m d.chg=A
 generalize xD d.marks c=B
 generalize d.out=O
 generalize (r.any fun d=>xD m d.chg&&d.out)=R1
 grind
theorem zH6 (h:zAo t.kept s k) (m:Mk) (c:List Ch) (hs:¬ s<t.sum):yP t s m c=if (((t.kept.drop k).any fun d=>xD m d.chg&&d.out)||(((t.kept.drop k).any fun d=>xD m d.chg)&&(t.kept.drop k).any fun d=>xD d.marks c))=true then (false,11) else ((t.kept.drop k).any fun d=>xD m d.chg,0):=by
 unfold yP zIK zQ2 zRQ inT;rw [xar hs,Bool.false_or,h.any fun d=>xD m d.chg&&d.out,h.any fun d=>xD m d.chg,h.any fun d=>xD d.marks c]
theorem zL9 (m:Mk) (c:List Ch) (hs:s<t.sum):yP t s m c=(false,11):=by grind [yP,zIK]
theorem jV.check (h:zAo t.kept s k) {m:Mk} {c:List Ch} (hs:¬ s<t.sum) {out inn:Bool} (d:jV m c (t.kept.drop k) out inn):yP t s m c=(out,0):=by
 rw [zH6 h m c hs,d.deep,<-d.hout,<-d.hinn,d.both];rfl
end
section
variable {W' W:World} {n0 g:Nat} {t:Tk} {ds:List Dx} {va:Value} {last:Int}
def zSD {α:Type} (f:α->Bool) (l:List α) (n:Int):Prop:=(n=-1/\∀x∈l,f x=false)∨∃j:Nat,n=j/\j<l.length/\(∀x∈l.take j,f x=false)/\∀h:j<l.length,f l[j]=true
theorem zM9 (f:Dx->Bool) (k:Nat) (lb:Array Value) (eg:∀args w,(callFunc k args).run prog w=.ok (.enter k args) w) (v:Value) (l:List Dx) (w:World) (r:KDx.Is w v l) (hl:l.length<=9000000000000000000)
  (hk:∀(W:World) (x:Dx),Below w.heap.size w W->x∈l->CC k (#[.agg (yN x).toArray]++lb) W fun e m=>e=.returned (.bool (f x))/\Below W.heap.size W m):CC 220 #[v,.func (.func k) #[] lb] w fun e m=>(∃n:Int,e=.returned (.int .i64 n)/\zSD f l n)/\Below w.heap.size w m:=by
 obtain ⟨p,ac,rfl,G⟩:=r;have s:=hid G;have A:=hid hk;go_enter func220,ntmps220;go_wp2_with fail
 go_loopg [8] l.length (fun gg u wr=>∃i:Nat,u=ii i/\i<=l.length/\l.length-i<=gg/\Hid (Bw w wr/\∀x∈l.take i,f x=false))
 case atStart=>exact ⟨0,rfl,by omega,by omega,zaR _ _,fun x c=>by simp at c⟩
 obtain ⟨i,rfl,hi,ab,a⟩:=hrel
 by_cases hlt:i<l.length
 ·have Q:(i:Int)<(l.length:Int):=by omega
  have Z:(0:Int)<=i:=by omega
  obtain ⟨X,Y,rfl,K⟩:∃b off,p=some (aa b off)/\KDx.At w b off l:=by
   rcases s.o with h|h
   ·rw [h] at hlt;simp at hlt
   exact h
  obtain ⟨V,y1,y2,y3,y4,y5⟩:=zJ9 (zC.at_kept K a.o.1) i hlt;have F:l[i]∈l:=zaN hlt;have H:l.take (i+1)=l.take i++[l[i]]:=zaK hlt;have d:=hid (A.o wr l[i] a.o.1 F)
  have R:Hid (f l[i]=false->∀x∈l.take (i+1),f x=false):=fun h x c=>by
   rw [H] at c
   rcases List.mem_append.1 c with c|c
   ·exact a.o.2 x c
   rw [List.mem_singleton.1 c];exact h
  have q:Hid (f l[i]=true->zSD f l (i:Int)):=fun h=>xaf ⟨i,rfl,hlt,a.o.2,fun _=>h⟩
  have j:=hid a.o.1
  generalize l[i]=x at *
  cases hq:f x with
  | true =>
   rw [hq] at d;have P:=hid (q.o hq);obtain ⟨N,L,T,⟨J,B,U,y,S,E⟩,I,z,D⟩:=x;simp only [yN,Mx.ksl,Mx.rsl,Dx.csl] at *;go_wp2_with (go_at_fn k;refine d.o.mono ?_;rintro e w1 ⟨rfl,hb1⟩);go_ret;exact ⟨⟨i,rfl,P.o⟩,zA j.o j.o.size hb1⟩
  | false =>
  rw [hq] at d;have M:=hid (R.o hq);obtain ⟨N,L,T,⟨J,B,U,y,S,E⟩,I,z,D⟩:=x;simp only [yN,Mx.ksl,Mx.rsl,Dx.csl] at *;go_wp2_with (go_at_fn k;refine d.o.mono ?_;rintro e w1 ⟨rfl,hb1⟩);have C:=hid (zA j.o j.o.size hb1);go_roundg (l.length-(i+1))
  case measure=>omega
  exact ⟨i+1,by go_num,by omega,by omega,C.o,M.o⟩
 have Q:¬ (i:Int)<(l.length:Int):=by omega
 have O:l.take i=l:=xaj (by omega);rw [O] at a;go_wp2_with fail;go_ret;exact ⟨⟨-1,rfl,xac ⟨rfl,a.o.2⟩⟩,a.o.1⟩
theorem zJF:∀args w,(callFunc 221 args).run prog w=.ok (.enter 221 args) w:=xaR func221 (by kernel_rfl) rfl
theorem zOz (x:Dx) (s:Int) (M:Nat) (w:World) (c:w.heap[M]? = some (.cells #[.int .u64 s] 24 (0,0))):CC 221 #[.agg (yN x).toArray,.pointer (some ⟨M,0,none⟩)] w fun e h=>e=.returned (.bool (decide (s<x.stamp)))/\Below w.heap.size w h:=by
 obtain ⟨b,a,i⟩:=tV w (yN x).toArray 131;obtain ⟨V,hV⟩:=eE (w.alloc (.cells (yN x).toArray 131));rw [hV] at b a i;have j:M<w.heap.size:=(gA c).1;have f:=(b.block M j).trans c;have d:=hid b;obtain ⟨K,hK⟩:=eE w.heap.size;rw [hK] at a;obtain ⟨xs,xt,xo,⟨mkp,mkc,mks,mrp,mrc,mrs⟩,xcp,xcc,xcs⟩:=x;simp only [yN,Mx.ksl,Mx.rsl,Dx.csl] at *;have l:V.cell? (aa K 1)=some (iu xt):=cz a;have k:V.cell? (aa M 0)=some (iu s):=cz f;go_enter func221,ntmps221;go_wp2_with fail;(try rw [hV]);go_ret;exact ⟨rfl,d.o⟩
def zFr (l:List Dx) (s:Int) (k:Nat):Prop:=k<=l.length/\(∀x∈l.take k,x.stamp<=s)/\∀h:k<l.length,s<(l[k]).stamp
theorem dY (v:Value) (l:List Dx) (s:Int) (w:World) (f:KDx.Is w v l) (r:l.length<=9000000000000000000):CC 170 #[v,.int .u64 s] w fun e C=>(∃k:Nat,e=.returned (.int .i64 k)/\zFr l s k)/\Below w.heap.size w C:=by
 obtain ⟨d,b,q⟩:=tV w #[iu s] 24;obtain ⟨V,hV⟩:=eE (w.alloc (.cells #[iu s] 24));obtain ⟨M,hM⟩:=eE w.heap.size;rw [hV] at d b q;rw [hM] at b q;have y:=hid (zM9 (fun x=>decide (s<x.stamp)) 221 #[jp M] zJF v l V (zC.is_kept f d) r (fun W x z a=>zOz x s M W ((z.block M (by omega)).trans b)));have i:=hid d;obtain ⟨p,cap,rfl,_⟩:=f;go_enter func170,ntmps170;go_wp2_with fail;(try rw [hV]);(try rw [hM]);refine y.o.mono ?_;rintro e w1 ⟨⟨n,rfl,hn⟩,hb1⟩;have m:=hid (zA i.o i.o.size hb1)
 rcases hn with ⟨rfl,B⟩|⟨j,rfl,hj,u,A⟩
 ·have c:Hid (zFr l s l.length):=⟨zaL _,fun x a=>by
   rw [List.take_length] at a;have:=xbN (B x a);omega,fun h=>by omega⟩
  go_wp2_with fail
  go_ret;exact ⟨⟨l.length,rfl,c.o⟩,m.o⟩
 have c:Hid (zFr l s j):=⟨by omega,fun x a=>by
  have:=xbN (u x a);omega,fun h=>xaM (A h)⟩
 have D:¬ ((j:Int)<0):=by omega
 go_wp2_with fail
 go_ret;exact ⟨⟨j,rfl,c.o⟩,m.o⟩
structure wU (n0:Nat) (W:World) (g:Nat) (t:Tk) (ds:List Dx) (va:Value) (last:Int):Prop where
 obj:W.heap[g]? = some (.cells #[.int .i64 (t.most:Nat),va,.int .u64 t.sum,.int .u64 last] 161 (0,0))
 low:n0<=g
 all:KDx.Own n0 W va ds
 each:∀d∈ds,QD.E n0 W d
 kept:ds.map Dx.dn=t.kept
 hlast:(t.last=none/\last=0)∨t.last=some last
 lastb:0<=last/\last<=18446744073709551615
 sumb:t.sum<=18446744073709551615
 ok:OkT t
 room:t.most<=64
def kD (g:Nat) (ds:List Dx) (va:Value) (k:Nat):Prop:=k=g∨va.ownBlock=some k∨∃d∈ds,gE d k
section
variable {n0:Nat} {W:World} {g:Nat} {t:Tk} {ds:List Dx} {va:Value} {last:Int}
theorem wU.lt (h:wU n0 W g t ds va last):g<W.heap.size:=(Array.getElem?_eq_some_iff.1 h.obj).1
theorem wU.len (h:wU n0 W g t ds va last):ds.length=t.kept.length:=by rw [<-h.kept,zaM]
theorem wU.few (h:wU n0 W g t ds va last):ds.length<=64:=by have:=h.len;have:=h.ok.few;have:=h.room;omega
theorem wU.blk (h:wU n0 W g t ds va last) (k:Nat) (a:kD g ds va k):n0<=k/\k<W.heap.size:=by
 rcases a with rfl|a|⟨x,b,a⟩
 ·exact ⟨h.low,h.lt⟩
 ·exact zaW (show W.ownsRow n0 KDx.T KDx.k va ds.length (KDx.cells ds) from h.all) k a
 exact QD.blk (h.each x b) k a
theorem wU.fr {P:Nat->Prop} (h:wU n0 W g t ds va last) (f:Fr P W W') (a:∀k,kD g ds va k->¬ P k):wU n0 W' g t ds va last:=⟨(f.block g h.lt (a g (xac rfl))).trans h.obj,h.low,f.row (show W.ownsRow n0 KDx.T KDx.k va ds.length (KDx.cells ds) from h.all) fun k b=>a k (xaf (xac b)),fun x c=>QD.fr (h.each x c) f fun k b=>a k (xaf (xaf ⟨x,c,b⟩)),h.kept,h.hlast,h.lastb,h.sumb,h.ok,h.room⟩
theorem wU.on (h:wU n0 W g t ds va last) (a:Below W.heap.size W W'):wU n0 W' g t ds va last:=h.fr (P:=fun _=>False) (Fr.of_below a) fun _ _ k=>k
theorem wU.shape (h:wU n0 W g t ds va last):∃p c,va=.slice p ds.length c:=zC.own_shape h.all
theorem wU.inn (h:wU n0 W g t ds va last):∀d∈ds,DIn W d:=fun d a=>⟨(h.each d a).1.inn.1,(h.each d a).1.inn.2,(h.each d a).2.1,(h.each d a).2.2.1,(h.each d a).2.2.2⟩
theorem wU.cut (h:wU n0 W g t ds va last) {s:Int} {k:Nat} (a:zFr ds s k):zAo t.kept s k:=by
 have l:=h.len;refine zOv h.ok.rise (by have:=a.1;omega) (fun d b=>?_) fun i=>?_
 ·rw [<-h.kept,<-List.map_take] at b;obtain ⟨x,j,rfl⟩:=List.mem_map.1 b;exact a.2.1 x j
 have c:k<ds.length:=by omega
 have f:=a.2.2 c
 have e:(t.kept[k])=(ds[k]).dn:=by
  have:t.kept[k]? = some (ds[k]).dn:=by rw [<-h.kept,xby,xai c];rfl
  rw [xai i] at this;exact zaP this
 rw [e];exact f
end
theorem zMq (n0:Nat) (w:World) (j:n0<=w.heap.size) (a:Int):CC 37 #[.int .i64 a] w fun e b=>e=.returned (.pointer (some ⟨w.heap.size,0,none⟩))/\wU n0 b w.heap.size (zD3 a) [] (.slice none 0 0) 0/\Below w.heap.size w b:=by
 have i:∀m:Int,m=(zEQ a:Nat)->wU n0 (w.alloc (.cells #[ii m,sc none 0 0,iu 0,iu 0] 161)) w.z (zD3 a) [] (sc none 0 0) 0:=fun m c =>
  ⟨by rw [c];exact xab w _,j,zC.own_nil _ _ _,(fun d f=>by cases f),rfl,xac ⟨rfl,rfl⟩,⟨by omega,by omega⟩,by show (0:Int)<=_;omega,zJy a,by show zEQ a<=64;unfold zEQ;omega⟩
 have n:∀m:Int,Bw w (w.alloc (.cells #[ii m,sc none 0 0,iu 0,iu 0] 161)):=fun m=>zaQ
 have l:=hid i;have h:=hid n;have k:Hid (min (max a 0) 64=(zEQ a:Nat)):=by show _=_;unfold zEQ;omega
 go_enter func37,ntmps37
 go_wp2_with fail
 go_ret;exact ⟨rfl,l.o _ k.o,h.o _⟩
theorem zEP (h:wU n0 W g t ds va last):CC 119 #[.pointer (some ⟨g,0,none⟩)] W fun e a=>e=.returned va/\Below W.heap.size W a:=by
 obtain ⟨p,c,rfl⟩:=h.shape;have b:W.cell? (aa g 1)=some (sc p ds.length c):=by rw [zaC h.obj];rfl
 go_enter func119,ntmps119
 go_wp2_with fail
 go_ret;exact ⟨rfl,zaR _ _⟩
theorem zNy (h:wU n0 W g t ds va last):CC 70 #[.pointer (some ⟨g,0,none⟩)] W fun e b=>e=.returned (.int .i64 (t.kept.length:Nat))/\Below W.heap.size W b:=by
 obtain ⟨p,c,rfl⟩:=h.shape;have a:=hid (zEP h);rw [<-h.len];go_enter func70,ntmps70;go_wp2_with fail;refine a.o.mono ?_;rintro e w1 ⟨rfl,hb1⟩;have d:=hid hb1;go_wp2_with fail;go_ret;exact ⟨rfl,d.o⟩
end
theorem zMx:EqlAt prog 36 (fun x:Ky=>.agg (xP x).toArray) (fun x y=>decide (x=y)):=⟨fun x y w=>by have:=Z.eql_key x.1 x.2 y.1 y.2 w;rw [Z.eqK_iff] at this;exact this,GuardAt.agg (fun x:Ky=>(xP x).toArray) (by kernel_rfl)⟩
theorem zQx {w:World} {b a:Nat} {p:List Ky} (h:KK.At w b a p) (j:Nat) (hj:j<p.length) (i:Nat) (v:Value) (c:(xP p[j])[i]? = some v):w.cell? ⟨b,a+j * 2+i,none⟩=some v:=h j hj i v c
theorem zIm (c:Option Addr) (d:Nat) (k:Ky) (w:World):CC 262 #[.slice c 0 d,.agg (xP k).toArray] w fun e b=>e=.returned (.bool false)/\Below w.heap.size w b:=by
 have j:∀W:World,CC 297 #[sc c 0 d,.agg (xP k).toArray] W fun e b=>e=.returned (ii (-1))/\Bw W b:=fun W=>by
  have a:=hid ((zaR W.z W).alloc (zaL _) (.cells #[tq k.1,tq k.2] 36));obtain ⟨h,f⟩:=k;simp only [xP] at *;go_enter func297,ntmps297;go_wp2_with fail;refine xaD 1 ?_;rw [xav];go_wp2_with fail;go_ret;exact ⟨rfl,a.o⟩
 have i:=hid j;have a:=hid ((zaR w.z w).alloc (zaL _) (.cells #[tq k.1,tq k.2] 36));obtain ⟨h,f⟩:=k;simp only [xP] at *;go_enter func262,ntmps262;go_wp2_with fail;refine (i.o _).mono ?_;rintro e w1 ⟨rfl,hb1⟩;have g:=hid (zA a.o a.o.size hb1);go_wp2_with fail;go_ret;exact ⟨rfl,g.o⟩
theorem zM0 (v:Value) (p:List Ky) (k:Ky) (w:World) (a:KK.Is w v p) (c:p.length<=maxLen):CC 262 #[v,.agg (xP k).toArray] w fun e h=>e=.returned (.bool (p.any fun x=>decide (x=k)))/\Below w.heap.size w h:=by
 obtain ⟨m,l,rfl,b⟩:=a
 by_cases h1:p=[]
 ·grind [zIm]
 rcases b with b|⟨g,d,rfl,n⟩
 ·grind
 unfold maxLen at c
 have f:=AnyQ.slices_Contains (α:=Ky) Tryz.conKys 2 isAgg36 sizeOf36 xP (fun _=>rfl) (fun x y=>decide (x=y)) zMx g d p.length l p k w (zaL _) (by omega)
  (fun j hj i v a=>by grind [zQx])
 change CC 262 _ _ _ at f
 grind
end Go.Proofs.YtkhljboeffhciaaGreat
