/-
  Texts of this claim, one behind the other: Zab Plain Leaf Tac Rng Shelf Sh3 Ix Spl Cut Pla Txt Fst Bld Rea Spell Fld Dec0 Dec1 May0 May Dec2 Wrd Stba Stbb Ord Sor Equ Tex Joa Job Stbc Stc Std Ste Stf Joc.
-/
import Derived.Test.YtjeogllmpjihaaaGreatDoorProg
import Derived.WalkKit
import GoSem.Claim
import Derived.WalkSpells
import Derived.WalkLawsBesides
import Derived.Laws.Rows
import Derived.Deep.LoopGhost
import Derived.Deep.QuietTactic
import Derived.Deep.DrawnRows
import Derived.Deep.RegionHeld3
import Derived.Deep.AppendLies
import Derived.BigQuiet
import Derived.BigRegion
import Derived.LoopN
import Derived.OwnWalk
import Derived.Laws.OwnMore
import Derived.Laws.MakeOwn
import Derived.Shelf.SlSortCmp.QuietGrown
import Derived.RangeFuncNested
import Derived.RangeFuncBound
import Derived.RangeFuncCalls
import Derived.RangeFuncLeaves
import Derived.Shelf.Strings.Builder1
import Derived.Shelf.Strings.OnBuilder
import Derived.Shelf.Small.Utf8
import Derived.Shelf.Small.Bits
import Derived.Shelf.Small.Strs
import Derived.Shelf.Small.Wraps
import Derived.Shelf.Strconv.Itoa0
import Derived.Shelf.Strconv.Itoa1
import Derived.Shelf.Strconv.Itoa2
import Derived.Shelf.Strconv.Itoa3
import Derived.Ground.MpProg
import Derived.Shelf.Pu.ParseUintPublic10
import Derived.Shelf.Pu.ErrVarParseUint
import Derived.Shelf.Strings.Search1
import Derived.Shelf.Strings.Search2
import Derived.Shelf.Strings.Search3
import Derived.Shelf.Strings.Count
import Derived.Shelf.Strings.Prefix
import Derived.Shelf.Strings.Split
import Derived.Shelf.Strings.SplitShaped
import Derived.Shelf.Strings.Runes
import Derived.Shelf.Strings.IndexAny
import Derived.Shelf.Strings.AsciiSet
import Derived.Shelf.Strings.IndexAnyAll
import Derived.Shelf.Unicode.DecodeSlow
import Derived.Shelf.Slices.Equal
import Derived.Ground.Names2Prog
import Derived.Shelf.Slices.Clone
import Derived.Shelf.Slices.Empties2
import Derived.Ground.SlgnProg
import Derived.Shelf.SlicesE.Equal
import Derived.Shelf.SlicesE.Clone
import Derived.Ground.SlgfProg
import Derived.Shelf.SlicesE.IndexFunc
import Derived.Shelf.SlGeneric
import Derived.Shelf.SlicesQ.IndexFunc
import Derived.Shelf.SlSortCmp.InsertionK
import Derived.Ground.NamesProg
import Derived.Shelf.Lays
import Derived.Ground.SlgqProg
import Derived.Ground.SlsfProg
import Derived.Shelf.SlLaysE0
import Derived.Shelf.SlLaysF0
import Derived.Shelf.SlLaysH0
import Derived.Shelf.SlLaysQ
import Derived.Shelf.SlSortCmp.SmallK
import Derived.Shelf.SlicesQ.Equal
import Derived.Shelf.Slices.Turned
import Derived.Lib.Bytealg
import Derived.Lib.IndexBytes
import Derived.Shelf.Abstract
import Derived.Shelf.RegionOpen
import Derived.OwnWalkIn
import Derived.TacticsInMore
import Derived.LoopNIn
import Derived.LoopIn
import Derived.Lib.Strings
import Derived.Sort.LotA
import Derived.Shelf.SlSortCmp.KitK
import Derived.Sort.WalkB2
import Derived.Sort.WalkB12
import Derived.Deep.CutRange
set_option maxHeartbeats 20000000
set_option maxRecDepth 100000
namespace Go.Proofs.YtjeogllmpjihaaaGreatDoor
section
abbrev _root_.Go.World.z (w:World):Nat:=w.heap.size
abbrev _root_.ByteArray.L (s:ByteArray):List UInt8:=s.data.toList
abbrev aa (b o:Nat):Addr:=⟨b,o,none⟩
abbrev ii (k:Int):Value:=.int .i64 k
abbrev iu (k:Int):Value:=.int .u64 k
abbrev tq (s:ByteArray):Value:=.string s
abbrev sc (p:Option Addr) (n c:Nat):Value:=.slice p n c
theorem sz {α:Type}:(∀(l:List α) (i:Nat) (y:α),l.toArray.setIfInBounds i y=(l.set i y).toArray)∧(∀(x y:α) (l:List α),(x::l).set 0 y=y::l)∧∀(x y:α) (l:List α) (i:Nat),(x::l).set (i+1) y=x::l.set i y :=
 ⟨fun l i y=>List.setIfInBounds_toArray l i y,fun _ _ _=>rfl,fun _ _ _ _=>rfl⟩
theorem cz {w:World} {b j:Nat} {cs:Array Value} {T:TypeId} {fr:Nat × Nat} {v:Value} (hb:w.heap[b]? = some (.cells cs T fr)) (hv:cs[j]? = some v:=by rfl):w.cell? ⟨b,j,none⟩=some v:=by
 simp only [World.cell?,hb];exact hv
theorem sJ {w:World} {b:Nat} {T:TypeId} {fr:Nat × Nat} {c0 c1 c2 c3 c4 c5 c6 c7 c8 c9:Value} (h:w.heap[b]? = some (.cells #[c0,c1,c2,c3,c4,c5,c6,c7,c8,c9] T fr)):w.cell? ⟨b,0,none⟩=some c0∧w.cell? ⟨b,1,none⟩=some c1∧w.cell? ⟨b,2,none⟩=some c2∧w.cell? ⟨b,3,none⟩=some c3∧w.cell? ⟨b,4,none⟩=some c4∧w.cell? ⟨b,5,none⟩=some c5∧w.cell? ⟨b,6,none⟩=some c6∧w.cell? ⟨b,7,none⟩=some c7∧w.cell? ⟨b,8,none⟩=some c8∧w.cell? ⟨b,9,none⟩=some c9 :=
 ⟨cz h,cz h,cz h,cz h,cz h,cz h,cz h,cz h,cz h,cz h⟩
end
section
def uI (n:Int):Bool:=decide (65<=n)&&decide (n<=90)
def yW (n:Int):Bool:=decide (97<=n)&&decide (n<=122)
def zIv (n:Int):Bool:=decide (48<=n)&&decide (n<=57)
def wV (n:Int):Bool:=uI n||yW n
def yL (n:Int):Bool:=wV n||zIv n
def idB (n:Int):Bool:=yL n||n==45||n==46
theorem zJZ {n:Int}:uI n=true↔65<=n/\n<=90:=by simp [uI]
theorem zEx {n:Int}:yW n=true↔97<=n/\n<=122:=by simp [yW]
def xD (f g:Int->Bool) (l:List UInt8):Bool :=
 match l with
 | []=>false
 | c::r=>decide (r.length+1<=32)&&f (c.toNat:Int)&&r.all fun x=>g (x.toNat:Int)
def xM (l:List UInt8):Bool:=xD uI wV l
def nY (l:List UInt8):Bool:=xD idB idB l
def yU (l:List UInt8):Bool:=xD yW yL l
def vI (l:List UInt8):Bool:=xD yL yL l
theorem pM (f g:Int->Bool) (s:ByteArray) (h:0<s.size) :
  xD f g s.data.toList=(decide (s.size<=32)&&f (s[0].toNat:Int)&&(s.data.toList.drop 1).all fun x=>g (x.toNat:Int)):=by
 obtain ⟨⟨l⟩⟩:=s
 cases l with
 | nil=>exact absurd h (Nat.lt_irrefl 0)
 | cons c r=>rfl
theorem vX (f g:Int->Bool) (s:ByteArray) (h:s.size=0):xD f g s.data.toList=false:=by
 obtain ⟨⟨l⟩⟩:=s
 cases l with
 | nil=>rfl
 | cons c r=>exact absurd h (Nat.succ_ne_zero _)
theorem tA (f g:Int->Bool) (s:ByteArray) (h:32<s.size):xD f g s.data.toList=false:=by
 rw [pM f g s (by omega)];have:¬ s.size<=32:=by omega
 simp [this]
theorem vW (f g:Int->Bool) (s:ByteArray) (h:0<s.size) (hf:f (s[0].toNat:Int)=false):xD f g s.data.toList=false:=by
 rw [pM f g s h];simp [hf]
theorem zAm (s:ByteArray) (k:Nat) (h:k<s.size):s.data.toList[k]'(by simpa using h)=s[k]:=rfl
theorem qS (f g:Int->Bool) (s:ByteArray) (k:Nat) (h1:1<=k) (h:k<s.size) (hg:g (s[k].toNat:Int)=false):xD f g s.data.toList=false:=by
 rw [pM f g s (by omega)]
 have:((s.data.toList.drop 1).all fun x=>g (x.toNat:Int))=false:=by
  rw [Bool.eq_false_iff];intro hall;rw [List.all_eq_true] at hall;have hl:k<s.data.toList.length:=by simpa using h
  have hm:s[k]∈s.data.toList.drop 1:=by
   rw [<-zAm s k h,List.mem_iff_getElem];refine ⟨k-1,by simp at hl ⊢;omega,?_⟩;rw [List.getElem_drop]
   congr 1
   omega
  have:=hall _ hm;rw [hg] at this
  cases this
 rw [this];simp
theorem uU (f g:Int->Bool) (s:ByteArray) (h:0<s.size) (h32:s.size<=32) (hf:f (s[0].toNat:Int)=true)
  (hg:∀k,1<=k->(hk:k<s.size)->g (s[k].toNat:Int)=true):xD f g s.data.toList=true:=by
 rw [pM f g s h]
 have:((s.L.drop 1).all fun x=>g (x.toNat:Int))=true:=by
  rw [List.all_eq_true];intro x hx;rw [List.mem_iff_getElem] at hx;obtain ⟨j,hj,rfl⟩:=hx;rw [List.getElem_drop];have hj2:1+j<s.size:=by simp at hj;omega
  exact hg (1+j) (by omega) hj2
 rw [this];simp [h32,hf]
end
section
open Go.RowKit
theorem hid {p:Prop} (h:p):Hid p:=h
theorem zA {a b:Bool} (h:a=b):Ending.returned (.bool a)=.returned (.bool b):=by rw [h]
theorem yY {k:IntKind} {a b:Int} (h:a=b):Ending.returned (.int k a)=.returned (.int k b):=by rw [h]
theorem zHw (n:Int) (w:World):Calls Tryz.prog 112 #[.int .u8 n] w fun e w'=>e=.returned (.bool (uI n))/\w'=w:=by
 go_enter Tryz.func112,Tryz.ntmps112
 go_wp2
 all_goals go_ret
 all_goals refine ⟨zA ?_,rfl⟩
 all_goals (rw [Bool.eq_iff_iff];simp [uI];try omega)
theorem zCw (n:Int) (w:World):Calls Tryz.prog 152 #[.int .u8 n] w fun e w'=>e=.returned (.bool (yW n))/\w'=w:=by
 go_enter Tryz.func152,Tryz.ntmps152
 go_wp2
 all_goals go_ret
 all_goals refine ⟨zA ?_,rfl⟩
 all_goals (rw [Bool.eq_iff_iff];simp [yW];try omega)
theorem zCE (n:Int) (w:World):Calls Tryz.prog 113 #[.int .u8 n] w fun e w'=>e=.returned (.bool (wV n))/\w'=w:=by
 go_enter Tryz.func113,Tryz.ntmps113
 go_wp2
 all_goals go_ret
 all_goals refine ⟨zA ?_,rfl⟩
 all_goals (rw [Bool.eq_iff_iff];simp [wV,uI,yW];try omega)
theorem gV (n:Int) (w:World):Calls Tryz.prog 110 #[.int .u8 n] w fun e w'=>e=.returned (.bool (yL n))/\w'=w:=by
 go_enter Tryz.func110,Tryz.ntmps110
 go_wp2
 all_goals go_ret
 all_goals refine ⟨zA ?_,rfl⟩
 all_goals (rw [Bool.eq_iff_iff];simp [yL,zIv,wV,uI,yW];try omega)
end
section
open Go.RowKit
theorem zP {B:Nat} {a w:World} (h:Below B a w) (n:Nat):Below B a (w.drewN n):=⟨h.os,h.tape,h.output,h.size,h.block⟩
theorem zQ {B:Nat} {a b c:World} (h:Below B a b) (hB:B<=b.heap.size) (k:Below b.heap.size b c):Below B a c:=h.trans (k.mono hB)
theorem Tryz.mixed:Tryz.prog.follows .mixedOrders=true:=by kernel_rfl
def zK (w w':World):Prop:=∃q os,w'=Sort.grow (w.drewN q) os
theorem zK.refl (w:World):zK w w:=⟨0,#[],by rw [Sort.grow_empty];rfl⟩
theorem zK.draws (w:World) (n:Nat):zK w (w.drewN n):=⟨n,#[],by rw [Sort.grow_empty]⟩
theorem zK.trans {a b c:World} (h:zK a b) (k:zK b c):zK a c:=by
 obtain ⟨q,os,rfl⟩:=h;obtain ⟨q',os',rfl⟩:=k;exact ⟨q+q',os++os',by show Sort.grow (Sort.grow ((a.drewN q).drewN q') os) os'=_;rw [Sort.grow_grow,World.drewN_drewN]⟩
theorem zK.alloc {a w:World} (h:zK a w) (o:Obj):zK a (w.alloc o):=h.trans ⟨0,#[o],by rw [Sort.alloc_eq_grow];rfl⟩
theorem zK.drewN {a w:World} (h:zK a w) (n:Nat):zK a (w.drewN n):=h.trans (zK.draws w n)
theorem zK.on {a w:World} {q:Nat} {os:Array Obj} (h:zK a w):zK a (Sort.grow (w.drewN q) os):=h.trans ⟨q,os,rfl⟩
theorem zK.below {w w':World} (h:zK w w'):Below w.heap.size w w':=by
 obtain ⟨q,os,rfl⟩:=h;refine ⟨rfl,rfl,rfl,by simp [Sort.grow,World.drewN],fun k hk=>?_⟩;show (w.heap++os)[k]? = w.heap[k]?;rw [Array.getElem?_append_left hk]
end
section
open Go.RowKit
def zN9 {α:Type} (F:Fence) (n:Nat) (P:Program) (g:Nat) (lb:Array Value) (encs:α->Array Value) (Kp:World->World->Prop) (S Sp:List α->Prop) (N Bs:Nat) (w:World):Prop :=
 ∀(l:Nat) (J Jx:List α->World->Prop) (W:World),Below w.heap.size w W->(∀s W v,J s W->J s (W.setCell ⟨Bs,0,none⟩ v)) ->
  (∀pre x W1,J pre W1->pre.length<N->YieldAt F (n-1) P l (encs x) W1 fun e W' =>
   (e=.returned (.bool true)/\J (pre++[x]) W'/\Kp W1 W')∨(e=.returned (.bool false)/\Jx (pre++[x]) W')) ->
  J [] W ->
  CallsIn F n P g (#[.func (.yield l) #[] #[]]++lb) W fun e W'=>(∃v,e=.returned v)/\((∃xs,S xs/\J xs W')∨(∃pre,Sp pre/\Jx pre W'))
variable {F:Fence} {n:Nat} {P:Program}
theorem uA {α:Type} {g:Operand} {ps:Array Tmp} {assign body:Code} {Q:Exit->Act->World->Prop} {a:Act} {w:World}
  (hro:F.round=none) (h1:1<=n) {gf:Nat} {lb:Array Value} (hg:a.eval g=.func (.func gf) #[] lb) (hFg:F.fn gf) (eg:∀args w,(callFunc gf args).run P w=.ok (.enter gf args) w)
  {encs:α->Array Value} {Kp:World->World->Prop} {S Sp:List α->Prop} {N Bs:Nat} (hBs:Bs<w.heap.size) (hseq:zN9 F (n-1) P gf lb encs Kp S Sp N Bs w)
  (hKt:∀{A B C:World},Kp A B->Kp B C->Kp A C) (hKb:∀(W:World) (l:Nat) (o':Obj),w.heap.size<=l->Kp W (W.putObj l o')) (hps:∀x,(encs x).size=ps.size)
  (I:List α->World->Prop) (Ix:Code->List α->World->Prop)
  (hIp:∀s W o',I s W->I s (W.putObj (w.heap.size+1) o')) (hIb:∀s W v,I s W->I s (W.setCell ⟨Bs,0,none⟩ v)) (hXp:∀c s W o',Ix c s W->Ix c s (W.putObj (w.heap.size+1) o'))
  (h0:∀o1 o2,I [] ((w.alloc o1).alloc o2)) (a₁:α->Act)
  (hassign:∀(l:Nat) (x:α) (W:World) (K:Act->World->Prop),K (a₁ x) W ->
   assign.wpIn (F.inRound l) (n-1-1) P (Exit.then K (fun _ _ _=>False)) { tmps:=(ps.zip (encs x)).foldl (fun t (p,v)=>t.setIfInBounds p v) a.tmps,defers:=[] } W)
  (hbody:∀(l:Nat) (pre:List α) (x:α) (W:World),w.heap.size+1<W.heap.size->I pre W->pre.length<N->body.wpIn (F.inRound l) (n-1-1) P (ownPostG w.heap.size Kp I Ix (pre++[x]) W) (a₁ x) W)
  (hdone:∀(xs:List α) (W:World),S xs->I xs W->W.heap[w.heap.size]? = some (.deferred (some []))->Q .normal { a with defers:={ target:=.collected w.heap.size,args:=#[] }::a.defers } W)
  (hstop:∀(c:Code) (pre:List α) (W:World),Sp pre->Ix c pre W->W.heap[w.heap.size]? = some (.deferred (some []))->c.wpIn F n P Q { a with defers:={ target:=.collected w.heap.size,args:=#[] }::a.defers } W) :
  (Code.rangeFunc g ps assign body).wpIn F n P Q a w:=by
 refine wpIn_rangeFunc ?_;intro fn hfn;rw [hro];obtain ⟨rec,hrec⟩:∃rec:LoopState->Option Code->Loop,rec=fun st pe=>{ state:=st,pending:=pe,fn,tmps:=a.tmps,params:=ps,assign,body,defers:=w.heap.size }:=⟨_,rfl⟩
 obtain ⟨W1,hW1⟩:∃W1,(w.alloc (.deferred (some []))).alloc (.loop (rec .ready none))=W1:=⟨_,rfl⟩
 have hL1:W1.heap[w.heap.size+1]? = some (.loop (rec .ready none)):=by
  rw [<-hW1];have:=World.alloc_heap_new (w.alloc (.deferred (some []))) (.loop (rec .ready none));rwa [World.size_alloc] at this
 have hK1:W1.heap[w.heap.size]? = some (.deferred (some [])):=by
  rw [<-hW1];exact (Below.heap_alloc _ _ _ (by simp)).trans (World.alloc_heap_new w _)
 have hb1:Below w.heap.size w W1:=by
  rw [<-hW1];exact ((Below.refl _ w).alloc (Nat.le_refl _) _).alloc (by simp) _
 refine ⟨w.heap.size+1,[{ target:=.collected w.heap.size,args:=#[] }],W1,{ target:=.fn (.func gf) lb,args:=#[.func (.yield (w.heap.size+1)) #[] #[]] },W1,gf,
  #[.func (.yield (w.heap.size+1)) #[] #[]]++lb,W1,?_,?_,?_,?_,fun _=>h1,?_⟩
 ·rw [<-hW1,hrec];exact run_enterLoop_outer _ _ _ _ _
 ·simp only [resolve,hg];simp [go_sem]
 ·intro f' hf';simp [Target.leads] at hf';subst hf';exact hFg
 ·simp [invoke,go_sem,eg]
 ·refine (hseq (w.heap.size+1)
   (fun pre W=>I pre W/\W.heap[w.heap.size+1]? = some (.loop (rec .ready none))/\W.heap[w.heap.size]? = some (.deferred (some [])))
   (fun pre W=>∃c,Ix c pre W/\W.heap[w.heap.size+1]? = some (.loop (rec .done (some c)))/\W.heap[w.heap.size]? = some (.deferred (some [])))
   W1 hb1
   (fun s W v hs=>⟨hIb s W v hs.1,(Below.heap_setCell W (aa Bs 0) v _ (by show _≠Bs;omega)).trans hs.2.1,(Below.heap_setCell W (aa Bs 0) v _ (by show _≠Bs;omega)).trans hs.2.2⟩)
   ?_ ⟨by rw [<-hW1];exact h0 _ _,hL1,hK1⟩).mono ?_
  ·rintro pre x W ⟨hi,hl,hk⟩ hlen;have hlt:w.heap.size+1<W.heap.size:=(Array.getElem?_eq_some_iff.1 hl).1;have hy:=run_yield (P:=P) (args:=encs x) hl (by rw [hrec];exact hps x);rw [hrec] at hy;refine ⟨fn,_,assign,body,hy,roundIn_of_wpIn hfn (hassign _ x W _ ⟨_,run_beginRound hl (by rw [hrec]),?_⟩)⟩;have hl2:(W.putObj (w.heap.size+1) (.loop { rec .ready none with state:=.busy })).heap[w.heap.size+1]? = some (.loop { rec .ready none with state:=.busy }):=World.putObj_heap_same hlt;have hk2:(W.putObj (w.heap.size+1) (.loop { rec .ready none with state:=.busy })).heap[w.heap.size]? = some (.deferred (some [])):=(World.putObj_heap_other (by omega)).trans hk;have hw2:Kp W (W.putObj (w.heap.size+1) (.loop { rec .ready none with state:=.busy })):=hKb _ _ _ (by omega);refine wpIn_mono (hbody _ pre x _ (Array.getElem?_eq_some_iff.1 hl2).1 (hIp _ _ _ hi) hlen) ?_
   have fin:∀(jump:Option Code) (W3:World),KeepsFrom w.heap.size (W.putObj (w.heap.size+1) (.loop { rec .ready none with state:=.busy })) W3 ->
     (Instr.endRound (w.heap.size+1) jump).run P W3=.ok (.bool jump.isNone) (W3.putObj (w.heap.size+1) (.loop (rec (if jump.isNone then .ready else .done) jump))) /\
     (W3.putObj (w.heap.size+1) (.loop (rec (if jump.isNone then .ready else .done) jump))).heap[w.heap.size+1]? = some (.loop (rec (if jump.isNone then .ready else .done) jump)) /\
     (W3.putObj (w.heap.size+1) (.loop (rec (if jump.isNone then .ready else .done) jump))).heap[w.heap.size]? = some (.deferred (some [])):=fun jump W3 hk3=>by
    have hl3:=hk3.same _ _ (by omega) hl2 rfl;have:=run_endRound (P:=P) jump hl3;rw [hrec] at this ⊢;exact ⟨this,World.putObj_heap_same (Array.getElem?_eq_some_iff.1 hl3).1,(World.putObj_heap_other (by omega)).trans (hk3.same _ _ (Nat.le_refl _) hk2 rfl)⟩
   rintro e a3 W3 hp
   cases e with
   | normal =>
    obtain ⟨hk3,hkp3,hi3⟩:=hp;obtain ⟨hr,hl4,hk4⟩:=fin none W3 hk3;exact ⟨_,_,hr,.inl ⟨rfl,⟨hIp _ _ _ hi3,hl4,hk4⟩,hKt (hKt hw2 hkp3) (hKb _ _ _ (by omega))⟩⟩
   | ret =>
    obtain ⟨hk3,hi3⟩:=hp;obtain ⟨hr,hl4,hk4⟩:=fin (some .ret) W3 hk3;exact ⟨_,_,hr,.inr ⟨rfl,.ret,hXp _ _ _ _ hi3,hl4,hk4⟩⟩
   | exit id =>
    obtain ⟨hk3,hi3⟩:=hp;obtain ⟨hr,hl4,hk4⟩:=fin (some (.exit id)) W3 hk3;exact ⟨_,_,hr,.inr ⟨rfl,.exit id,hXp _ _ _ _ hi3,hl4,hk4⟩⟩
   | goto t =>
    obtain ⟨hk3,hi3⟩:=hp;obtain ⟨hr,hl4,hk4⟩:=fin (some (.goto t)) W3 hk3;exact ⟨_,_,hr,.inr ⟨rfl,.goto t,hXp _ _ _ _ hi3,hl4,hk4⟩⟩
   | panic ch=>exact hp.elim
   | outgrown=>exact hp.elim
  ·rintro e W2 ⟨⟨v,rfl⟩,(⟨xs,hS,hi,hl,hk⟩|⟨pre,hSp,c,hi,hl,hk⟩)⟩
   ·exact ⟨none,_,by have:=run_endLoop (P:=P) hl (by rw [hrec];simp);rw [hrec] at this;exact this,hdone xs _ hS (hIp _ _ _ hi) ((World.putObj_heap_other (by omega)).trans hk)⟩
   ·exact ⟨some c,_,by have:=run_endLoop (P:=P) hl (by rw [hrec];simp);rw [hrec] at this;exact this,hstop c pre _ hSp (hXp _ _ _ _ hi) ((World.putObj_heap_other (by omega)).trans hk)⟩
end
end Go.Proofs.YtjeogllmpjihaaaGreatDoor
namespace Go.Proofs
open Go.Shelf
def Tryz.lays169_ren:Go.Shelf.Ren:=⟨fun|169=>49|n=>n,fun|70=>88|9=>9|0=>0|72=>91|37=>89|127=>130|3=>3|5=>5|n=>n,fun|n=>n⟩
theorem Tryz.lays169:Go.Proofs.Lays.n169 Tryz.prog Tryz.lays169_ren:={
 mixed:=by kernel_rfl
 f169:=Tryz.func49.trans (congrArg some (by kernel_rfl))
 t0:=Tryz.underlying0
 a0:=Tryz.isAgg0
 z0:=Tryz.sizeOf0
 v0:=Tryz.zeroValue0
 t3:=Tryz.underlying3
 a3:=Tryz.isAgg3
 z3:=Tryz.sizeOf3
 v3:=Tryz.zeroValue3
 t9:=Tryz.underlying9
 a9:=Tryz.isAgg9
 z9:=Tryz.sizeOf9
 v9:=Tryz.zeroValue9
 t37:=Tryz.underlying89
 a37:=Tryz.isAgg89
 z37:=Tryz.sizeOf89
 v37:=Tryz.zeroValue89
 t70:=Tryz.underlying88
 a70:=Tryz.isAgg88
 z70:=Tryz.sizeOf88
 v70:=Tryz.zeroValue88
 t72:=Tryz.underlying91
 a72:=Tryz.isAgg91
 z72:=Tryz.sizeOf91
 v72:=Tryz.zeroValue91
 t127:=Tryz.underlying130
 a127:=Tryz.isAgg130
 z127:=Tryz.sizeOf130
 v127:=Tryz.zeroValue130 }
theorem Tryz.Builder_Extra_169:Builder.Extra Tryz.prog Tryz.lays169_ren:={
 sizeBuilder:=by kernel_rfl
 liesBuilder:=by kernel_rfl
 t5:=Tryz.underlying5
 a5:=Tryz.isAgg5
 z5:=Tryz.sizeOf5
 v5:=Tryz.zeroValue5
 infoByte:=by kernel_rfl
 cellsByte:=by kernel_rfl
 sizeByte:=by kernel_rfl
 neB5:=by decide }
open Go.RowKit in
theorem Tryz.Builder_String_any (B b:Nat) (l:List UInt8) (w:World) (h:Lib.IsBuilder 91 5 B b (Lib.byteCells l) w) (hBw:B<=w.heap.size) :
  Calls Tryz.prog 49 #[.pointer (some ⟨b,0,none⟩)] w fun e w'=>e=.returned (.string ⟨l.toArray⟩)/\Below B w w':=Any.Builder_String_any Tryz.lays169 Tryz.Builder_Extra_169 B b l w h hBw
def Tryz.lays106_ren:Go.Shelf.Ren:=⟨fun|106=>199|213=>225|265=>238|n=>n,fun|9=>9|3=>3|n=>n,fun|n=>n⟩
theorem Tryz.lays106:Go.Proofs.Lays.n106 Tryz.prog Tryz.lays106_ren:={
 mixed:=by kernel_rfl
 f106:=Tryz.func199.trans (congrArg some (by kernel_rfl))
 f213:=Tryz.func225.trans (congrArg some (by kernel_rfl))
 f265:=Tryz.func238.trans (congrArg some (by kernel_rfl))
 t3:=Tryz.underlying3
 a3:=Tryz.isAgg3
 z3:=Tryz.sizeOf3
 v3:=Tryz.zeroValue3
 t9:=Tryz.underlying9
 a9:=Tryz.isAgg9
 z9:=Tryz.sizeOf9
 v9:=Tryz.zeroValue9 }
open Go.RowKit in
theorem Tryz.strings_Compare (a b:ByteArray) (w:World) :
  Calls Tryz.prog 199 #[.string a,.string b] w fun e w'=>e=.returned (.int .i64 (Lib.compareBytes a.data.toList b.data.toList))/\w'=w:=Any.strings_Compare Tryz.lays106 a b w
def Tryz.lays137_ren:Go.Shelf.Ren:=⟨fun|137=>159|217=>145|266=>181|n=>n,fun|9=>9|5=>5|3=>3|n=>n,fun|n=>n⟩
theorem Tryz.lays137:Go.Proofs.Lays.n137 Tryz.prog Tryz.lays137_ren:={
 mixed:=by kernel_rfl
 f137:=Tryz.func159.trans (congrArg some (by kernel_rfl))
 f217:=Tryz.func145.trans (congrArg some (by kernel_rfl))
 f266:=Tryz.func181.trans (congrArg some (by kernel_rfl))
 t3:=Tryz.underlying3
 a3:=Tryz.isAgg3
 z3:=Tryz.sizeOf3
 v3:=Tryz.zeroValue3
 t5:=Tryz.underlying5
 a5:=Tryz.isAgg5
 z5:=Tryz.sizeOf5
 v5:=Tryz.zeroValue5
 t9:=Tryz.underlying9
 a9:=Tryz.isAgg9
 z9:=Tryz.sizeOf9
 v9:=Tryz.zeroValue9 }
open Go.RowKit in
theorem Tryz.strings_IndexByte (s:ByteArray) (c:Int) (w:World) :
  Calls Tryz.prog 159 #[.string s,.int .u8 c] w fun e w'=>e=.returned (.int .i64 (Lib.indexByte s.data.toList c.toNat.toUInt8))/\w'=w:=Any.strings_IndexByte Tryz.lays137 s c w
def Tryz.lays219_ren:Go.Shelf.Ren:=⟨fun|219=>105|217=>145|225=>146|224=>147|267=>148|266=>181|314=>182|n=>n,fun|9=>9|3=>3|4=>4|5=>5|46=>163|146=>185|51=>184|n=>n,fun|1=>2|n=>n⟩
theorem Tryz.lays219:Go.Proofs.Lays.n219 Tryz.prog Tryz.lays219_ren:={
 mixed:=by kernel_rfl
 f217:=Tryz.func145.trans (congrArg some (by kernel_rfl))
 f219:=Tryz.func105.trans (congrArg some (by kernel_rfl))
 f224:=Tryz.func147.trans (congrArg some (by kernel_rfl))
 f225:=Tryz.func146.trans (congrArg some (by kernel_rfl))
 f266:=Tryz.func181.trans (congrArg some (by kernel_rfl))
 f267:=Tryz.func148.trans (congrArg some (by kernel_rfl))
 f314:=Tryz.func182.trans (congrArg some (by kernel_rfl))
 t3:=Tryz.underlying3
 a3:=Tryz.isAgg3
 z3:=Tryz.sizeOf3
 v3:=Tryz.zeroValue3
 t4:=Tryz.underlying4
 a4:=Tryz.isAgg4
 z4:=Tryz.sizeOf4
 v4:=Tryz.zeroValue4
 t5:=Tryz.underlying5
 a5:=Tryz.isAgg5
 z5:=Tryz.sizeOf5
 v5:=Tryz.zeroValue5
 t9:=Tryz.underlying9
 a9:=Tryz.isAgg9
 z9:=Tryz.sizeOf9
 v9:=Tryz.zeroValue9
 t46:=Tryz.underlying163
 a46:=Tryz.isAgg163
 z46:=Tryz.sizeOf163
 v46:=Tryz.zeroValue163
 t51:=Tryz.underlying184
 a51:=Tryz.isAgg184
 z51:=Tryz.sizeOf184
 v51:=Tryz.zeroValue184
 t146:=Tryz.underlying185
 a146:=Tryz.isAgg185
 z146:=Tryz.sizeOf185
 v146:=Tryz.zeroValue185
 g1:=by kernel_rfl }
open Go.RowKit Go.Lib in
theorem Tryz.stringslite_Index_one (s:ByteArray) (c:UInt8) (w:World) :
  Calls Tryz.prog 105 #[.string s,.string ⟨#[c]⟩] w fun e w'=>e=.returned (.int .i64 (Lib.indexByte s.data.toList c))/\w'=w:=Any.stringslite_Index_one Tryz.lays219 s c w
def Tryz.lays143_ren:Go.Shelf.Ren:=⟨fun|143=>63|219=>105|217=>145|225=>146|224=>147|267=>148|266=>181|314=>182|n=>n,fun|9=>9|3=>3|4=>4|5=>5|46=>163|146=>185|51=>184|n=>n,fun|1=>2|n=>n⟩
theorem Tryz.lays143:Go.Proofs.Lays.n143 Tryz.prog Tryz.lays143_ren:={
 mixed:=by kernel_rfl
 f143:=Tryz.func63.trans (congrArg some (by kernel_rfl))
 f217:=Tryz.func145.trans (congrArg some (by kernel_rfl))
 f219:=Tryz.func105.trans (congrArg some (by kernel_rfl))
 f224:=Tryz.func147.trans (congrArg some (by kernel_rfl))
 f225:=Tryz.func146.trans (congrArg some (by kernel_rfl))
 f266:=Tryz.func181.trans (congrArg some (by kernel_rfl))
 f267:=Tryz.func148.trans (congrArg some (by kernel_rfl))
 f314:=Tryz.func182.trans (congrArg some (by kernel_rfl))
 t3:=Tryz.underlying3
 a3:=Tryz.isAgg3
 z3:=Tryz.sizeOf3
 v3:=Tryz.zeroValue3
 t4:=Tryz.underlying4
 a4:=Tryz.isAgg4
 z4:=Tryz.sizeOf4
 v4:=Tryz.zeroValue4
 t5:=Tryz.underlying5
 a5:=Tryz.isAgg5
 z5:=Tryz.sizeOf5
 v5:=Tryz.zeroValue5
 t9:=Tryz.underlying9
 a9:=Tryz.isAgg9
 z9:=Tryz.sizeOf9
 v9:=Tryz.zeroValue9
 t46:=Tryz.underlying163
 a46:=Tryz.isAgg163
 z46:=Tryz.sizeOf163
 v46:=Tryz.zeroValue163
 t51:=Tryz.underlying184
 a51:=Tryz.isAgg184
 z51:=Tryz.sizeOf184
 v51:=Tryz.zeroValue184
 t146:=Tryz.underlying185
 a146:=Tryz.isAgg185
 z146:=Tryz.sizeOf185
 v146:=Tryz.zeroValue185
 g1:=by kernel_rfl }
open Go.RowKit Go.Lib in
theorem Tryz.strings_Index_one (s:ByteArray) (c:UInt8) (w:World) :
  Calls Tryz.prog 63 #[.string s,.string ⟨#[c]⟩] w fun e w'=>e=.returned (.int .i64 (Lib.indexByte s.data.toList c))/\w'=w:=Any.strings_Index_one Tryz.lays143 s c w
def Tryz.lays156_ren:Go.Shelf.Ren:=⟨fun|156=>26|165=>47|166=>48|169=>49|240=>93|241=>94|276=>134|277=>135|n=>n,fun|31=>43|9=>9|3=>3|4=>4|0=>0|20=>20|72=>91|76=>95|70=>88|37=>89|75=>94|127=>130|164=>155|5=>5|80=>97|n=>n,fun|n=>n⟩
theorem Tryz.lays156:Go.Proofs.Lays.n156 Tryz.prog Tryz.lays156_ren:={
 mixed:=by kernel_rfl
 f156:=Tryz.func26.trans (congrArg some (by kernel_rfl))
 f165:=Tryz.func47.trans (congrArg some (by kernel_rfl))
 f166:=Tryz.func48.trans (congrArg some (by kernel_rfl))
 f169:=Tryz.func49.trans (congrArg some (by kernel_rfl))
 f240:=Tryz.func93.trans (congrArg some (by kernel_rfl))
 f241:=Tryz.func94.trans (congrArg some (by kernel_rfl))
 f276:=Tryz.func134.trans (congrArg some (by kernel_rfl))
 f277:=Tryz.func135.trans (congrArg some (by kernel_rfl))
 t0:=Tryz.underlying0
 a0:=Tryz.isAgg0
 z0:=Tryz.sizeOf0
 v0:=Tryz.zeroValue0
 t3:=Tryz.underlying3
 a3:=Tryz.isAgg3
 z3:=Tryz.sizeOf3
 v3:=Tryz.zeroValue3
 t4:=Tryz.underlying4
 a4:=Tryz.isAgg4
 z4:=Tryz.sizeOf4
 v4:=Tryz.zeroValue4
 t9:=Tryz.underlying9
 a9:=Tryz.isAgg9
 z9:=Tryz.sizeOf9
 v9:=Tryz.zeroValue9
 t20:=Tryz.underlying20
 a20:=Tryz.isAgg20
 z20:=Tryz.sizeOf20
 v20:=Tryz.zeroValue20
 t31:=Tryz.underlying43
 a31:=Tryz.isAgg43
 z31:=Tryz.sizeOf43
 v31:=Tryz.zeroValue43
 t37:=Tryz.underlying89
 a37:=Tryz.isAgg89
 z37:=Tryz.sizeOf89
 v37:=Tryz.zeroValue89
 t70:=Tryz.underlying88
 a70:=Tryz.isAgg88
 z70:=Tryz.sizeOf88
 v70:=Tryz.zeroValue88
 t72:=Tryz.underlying91
 a72:=Tryz.isAgg91
 z72:=Tryz.sizeOf91
 v72:=Tryz.zeroValue91
 t75:=Tryz.underlying94
 a75:=Tryz.isAgg94
 z75:=Tryz.sizeOf94
 v75:=Tryz.zeroValue94
 t76:=Tryz.underlying95
 a76:=Tryz.isAgg95
 z76:=Tryz.sizeOf95
 v76:=Tryz.zeroValue95
 t127:=Tryz.underlying130
 a127:=Tryz.isAgg130
 z127:=Tryz.sizeOf130
 v127:=Tryz.zeroValue130
 t164:=Tryz.underlying155
 a164:=Tryz.isAgg155
 z164:=Tryz.sizeOf155
 v164:=Tryz.zeroValue155 }
theorem Tryz.Builder_Extra_156:Builder.Extra Tryz.prog Tryz.lays156_ren:={
 sizeBuilder:=by kernel_rfl
 liesBuilder:=by kernel_rfl
 t5:=Tryz.underlying5
 a5:=Tryz.isAgg5
 z5:=Tryz.sizeOf5
 v5:=Tryz.zeroValue5
 infoByte:=by kernel_rfl
 cellsByte:=by kernel_rfl
 sizeByte:=by kernel_rfl
 neB5:=by decide }
open Go.RowKit in
theorem Tryz.strings_Join (bk o c:Nat) (xs:List ByteArray) (sep:ByteArray) (w:World) (hcells:∀(j:Nat) x,xs[j]? = some x->w.cell? ⟨bk,o+j,none⟩=some (.string x)) (hbk:bk<w.heap.size) (hN:xs.length<=140737488355328) (hcap:xs.length<=c) (hlen:(Lib.join (xs.map (·.data.toList)) sep.data.toList).length<=140737488355328) :
  Calls Tryz.prog 26 #[.slice (some ⟨bk,o,none⟩) xs.length c,.string sep] w fun e w'=>e=.returned (.string ⟨(Lib.join (xs.map (·.data.toList)) sep.data.toList).toArray⟩)/\Below w.heap.size w w':=Any.strings_Join Tryz.lays156 Tryz.Builder_Extra_156 bk o c xs sep w hcells hbk hN hcap hlen
open Go.RowKit in
theorem Tryz.strings_Join_none (a:Option Addr) (c:Nat) (sep:ByteArray) (w:World) :
  Calls Tryz.prog 26 #[.slice a 0 c,.string sep] w fun e w'=>e=.returned (.string ⟨#[]⟩)/\w'=w:=Any.strings_Join_none Tryz.lays156 Tryz.Builder_Extra_156 a c sep w
def Tryz.lays193_ren:Go.Shelf.Ren:=⟨fun|193=>144|n=>n,fun|31=>43|9=>9|4=>4|3=>3|0=>0|n=>n,fun|n=>n⟩
theorem Tryz.lays193:Go.Proofs.Lays.n193 Tryz.prog Tryz.lays193_ren:={
 mixed:=by kernel_rfl
 f193:=Tryz.func144.trans (congrArg some (by kernel_rfl))
 t0:=Tryz.underlying0
 a0:=Tryz.isAgg0
 z0:=Tryz.sizeOf0
 v0:=Tryz.zeroValue0
 t3:=Tryz.underlying3
 a3:=Tryz.isAgg3
 z3:=Tryz.sizeOf3
 v3:=Tryz.zeroValue3
 t4:=Tryz.underlying4
 a4:=Tryz.isAgg4
 z4:=Tryz.sizeOf4
 v4:=Tryz.zeroValue4
 t9:=Tryz.underlying9
 a9:=Tryz.isAgg9
 z9:=Tryz.sizeOf9
 v9:=Tryz.zeroValue9
 t31:=Tryz.underlying43
 a31:=Tryz.isAgg43
 z31:=Tryz.sizeOf43
 v31:=Tryz.zeroValue43 }
open Go.RowKit Go.Lib in
theorem Tryz.slices_Equal_string (b1 o1 n c b2 o2 m d:Nat) (xs ys:List ByteArray) (w:World) (hx:n<=xs.length) (hy:m<=ys.length) (hbig:n<=9223372036854775807) (hbig2:m<=9223372036854775807) (hc1:∀j,j<xs.length->w.cell? ⟨b1,o1+j,none⟩=some (.string (xs.getD j ByteArray.empty))) (hc2:∀j,j<ys.length->w.cell? ⟨b2,o2+j,none⟩=some (.string (ys.getD j ByteArray.empty))) :
  Calls Tryz.prog 144 #[.slice (some ⟨b1,o1,none⟩) n c,.slice (some ⟨b2,o2,none⟩) m d] w fun e w'=>e=.returned (.bool (decide (xs.take n=ys.take m)))/\∃q,w'=w.drewN q:=Any.slices_Equal_string Tryz.lays193 b1 o1 n c b2 o2 m d xs ys w hx hy hbig hbig2 hc1 hc2
open Go.RowKit Go.Lib in
theorem Tryz.slices_Equal_string_empty (a1 a2:Option Addr) (c m d:Nat) (w:World) (hbig2:m<=9223372036854775807) :
  Calls Tryz.prog 144 #[.slice a1 0 c,.slice a2 m d] w fun e w'=>e=.returned (.bool (decide (m=0)))/\w'=w:=Any.slices_Equal_string_empty Tryz.lays193 a1 a2 c m d w hbig2
open Go.RowKit Go.Lib in
theorem Tryz.slices_Equal_string_lens (a1 a2:Option Addr) (n c m d:Nat) (w:World) (hnm:n≠m) :
  Calls Tryz.prog 144 #[.slice a1 n c,.slice a2 m d] w fun e w'=>e=.returned (.bool false)/\w'=w:=Any.slices_Equal_string_lens Tryz.lays193 a1 a2 n c m d w hnm
def Tryz.laysNm216_ren:Go.Shelf.Ren:=⟨fun|16=>188|n=>n,fun|24=>43|9=>9|4=>4|n=>n,fun|n=>n⟩
theorem Tryz.laysNm216:Go.Proofs.Lays2.n16 Tryz.prog Tryz.laysNm216_ren:={
 mixed:=by kernel_rfl
 f16:=Tryz.func188.trans (congrArg some (by kernel_rfl))
 t4:=Tryz.underlying4
 a4:=Tryz.isAgg4
 z4:=Tryz.sizeOf4
 v4:=Tryz.zeroValue4
 t9:=Tryz.underlying9
 a9:=Tryz.isAgg9
 z9:=Tryz.sizeOf9
 v9:=Tryz.zeroValue9
 t24:=Tryz.underlying43
 a24:=Tryz.isAgg43
 z24:=Tryz.sizeOf43
 v24:=Tryz.zeroValue43
 i9:=by kernel_rfl }
open Go.RowKit Go.Lib in
theorem Tryz.slices_Clone_string (b off n c:Nat) (zs:List ByteArray) (w:World) (hz:n<=zs.length) (hbig:n * 16<=140737488355328) (hc:∀j,j<zs.length->w.cell? ⟨b,off+j,none⟩=some (.string (zs.getD j ByteArray.empty))) :
  Calls Tryz.prog 188 #[.slice (some ⟨b,off,none⟩) n c] w fun e w'=>∃v',e=.returned v'/\w'.ownsRow w.heap.size 9 1 v' n ((zs.take n).map (Value.string))/\v'≠.slice none 0 0/\Below w.heap.size w w':=Any.slices_Clone_string Tryz.laysNm216 b off n c zs w hz hbig hc
open Go.RowKit Go.Lib in
theorem Tryz.slices_Clone_string_nil (n c:Nat) (w:World) :
  Calls Tryz.prog 188 #[.slice none n c] w fun e w'=>e=.returned (.slice none 0 0)/\w'=w:=Any.slices_Clone_string_nil Tryz.laysNm216 n c w
open Go.RowKit Go.Lib in
theorem Tryz.slices_Clone_string_zero (a:Addr) (c:Nat) (w:World) :
  Calls Tryz.prog 188 #[.slice (some a) 0 c] w fun e w'=>∃v',e=.returned v'/\w'.ownsRow w.heap.size 9 1 v' 0 []/\v'≠.slice none 0 0/\Below w.heap.size w w':=Any.slices_Clone_string_zero Tryz.laysNm216 a c w
def Tryz.laysSlH8_f177_ren:Go.Shelf.Ren:=⟨fun|8=>177|6=>212|n=>n,fun|22=>43|23=>9|25=>30|4=>4|3=>3|0=>0|n=>n,fun|n=>n⟩
theorem Tryz.laysSlH8_f177:Go.Proofs.SlLaysH.n8 Tryz.prog Tryz.laysSlH8_f177_ren:={
 mixed:=by kernel_rfl
 f6:=⟨Tryz.f212.name,by decide,Tryz.func212.trans (congrArg some (by kernel_rfl))⟩
 f8:=⟨Tryz.f177.name,by decide,Tryz.func177.trans (congrArg some (by kernel_rfl))⟩
 t0:=Tryz.underlying0
 a0:=Tryz.isAgg0
 z0:=Tryz.sizeOf0
 v0:=Tryz.zeroValue0
 t3:=Tryz.underlying3
 a3:=Tryz.isAgg3
 z3:=Tryz.sizeOf3
 v3:=Tryz.zeroValue3
 t4:=Tryz.underlying4
 a4:=Tryz.isAgg4
 z4:=Tryz.sizeOf4
 v4:=Tryz.zeroValue4
 t22:=Tryz.underlying43
 a22:=Tryz.isAgg43
 z22:=Tryz.sizeOf43
 v22:=Tryz.zeroValue43
 a23:=Tryz.isAgg9
 z23:=Tryz.sizeOf9
 t25:=Tryz.underlying30
 a25:=Tryz.isAgg30
 z25:=Tryz.sizeOf30
 v25:=Tryz.zeroValue30 }
open Go.RowKit Go.Lib in
theorem Tryz.slices_ContainsFunc {α:Type} [Inhabited α] (enc:α->Value) (p:α->Bool) (g:Nat) (lb:Array Value) (eg:∀args w,(callFunc g args).run Tryz.prog w=.ok (.enter g args) w) (b off n c:Nat) (zs:List α) (w:World) (hp:PredAt Tryz.prog g lb enc p w) (hz:n<=zs.length) (hbig:n<=9223372036854775807) (hc:∀j,j<zs.length->w.cell? ⟨b,off+j,none⟩=some (enc zs[j]!)) :
  Calls Tryz.prog 177 #[.slice (some ⟨b,off,none⟩) n c,.func (.func g) #[] lb] w fun e w'=>e=.returned (.bool ((zs.take n).any p))/\∃q,w'=w.drewN q:=AnyE.slices_ContainsFunc Tryz.laysSlH8_f177 enc p g lb eg b off n c zs w hp hz hbig hc
open Go.RowKit Go.Lib in
theorem Tryz.slices_ContainsFunc_empty {α:Type} [Inhabited α] (a:Option Addr) (c:Nat) (fv:Value) (w:World) :
  Calls Tryz.prog 177 #[.slice a 0 c,fv] w fun e w'=>e=.returned (.bool false)/\w'=w:=AnyE.slices_ContainsFunc_empty Tryz.laysSlH8_f177 a c fv w
def Tryz.lays122_ren:Go.Shelf.Ren:=⟨fun|122=>200|215=>226|n=>n,fun|3=>3|4=>4|n=>n,fun|n=>n⟩
theorem Tryz.lays122:Go.Proofs.Lays.n122 Tryz.prog Tryz.lays122_ren:={
 mixed:=by kernel_rfl
 f122:=Tryz.func200.trans (congrArg some (by kernel_rfl))
 f215:=Tryz.func226.trans (congrArg some (by kernel_rfl))
 t3:=Tryz.underlying3
 a3:=Tryz.isAgg3
 z3:=Tryz.sizeOf3
 v3:=Tryz.zeroValue3
 t4:=Tryz.underlying4
 a4:=Tryz.isAgg4
 z4:=Tryz.sizeOf4
 v4:=Tryz.zeroValue4 }
open Go.RowKit in
theorem Tryz.cmp_Compare_int (x y:Int) (w:World) :
  Calls Tryz.prog 200 #[.int .i64 x,.int .i64 y] w fun e w'=>e=.returned (.int .i64 (Lib.compareInt x y))/\w'=w:=Any.cmp_Compare_int Tryz.lays122 x y w
def Tryz.lays99_ren:Go.Shelf.Ren:=⟨fun|99=>66|206=>60|n=>n,fun|9=>9|4=>4|3=>3|n=>n,fun|n=>n⟩
theorem Tryz.lays99:Go.Proofs.Lays.n99 Tryz.prog Tryz.lays99_ren:={
 mixed:=by kernel_rfl
 f99:=Tryz.func66.trans (congrArg some (by kernel_rfl))
 f206:=Tryz.func60.trans (congrArg some (by kernel_rfl))
 t3:=Tryz.underlying3
 a3:=Tryz.isAgg3
 z3:=Tryz.sizeOf3
 v3:=Tryz.zeroValue3
 t4:=Tryz.underlying4
 a4:=Tryz.isAgg4
 z4:=Tryz.sizeOf4
 v4:=Tryz.zeroValue4
 t9:=Tryz.underlying9
 a9:=Tryz.isAgg9
 z9:=Tryz.sizeOf9
 v9:=Tryz.zeroValue9 }
open Go.RowKit Go.Lib in
theorem Tryz.strings_HasPrefix (s p:ByteArray) (w:World) :
  Calls Tryz.prog 66 #[.string s,.string p] w fun e w'=>e=.returned (.bool (Lib.hasPrefix s.data.toList p.data.toList))/\w'=w:=Any.strings_HasPrefix Tryz.lays99 s p w
def Tryz.lays125_ren:Go.Shelf.Ren:=⟨fun|125=>197|128=>224|129=>208|n=>n,fun|46=>163|3=>3|51=>184|53=>40|4=>4|5=>5|9=>9|n=>n,fun|n=>n⟩
theorem Tryz.lays125:Go.Proofs.Lays.n125 Tryz.prog Tryz.lays125_ren:={
 mixed:=by kernel_rfl
 f125:=Tryz.func197.trans (congrArg some (by kernel_rfl))
 f128:=Tryz.func224.trans (congrArg some (by kernel_rfl))
 f129:=Tryz.func208.trans (congrArg some (by kernel_rfl))
 t3:=Tryz.underlying3
 a3:=Tryz.isAgg3
 z3:=Tryz.sizeOf3
 v3:=Tryz.zeroValue3
 t4:=Tryz.underlying4
 a4:=Tryz.isAgg4
 z4:=Tryz.sizeOf4
 v4:=Tryz.zeroValue4
 t5:=Tryz.underlying5
 a5:=Tryz.isAgg5
 z5:=Tryz.sizeOf5
 v5:=Tryz.zeroValue5
 t9:=Tryz.underlying9
 a9:=Tryz.isAgg9
 z9:=Tryz.sizeOf9
 v9:=Tryz.zeroValue9
 t46:=Tryz.underlying163
 a46:=Tryz.isAgg163
 z46:=Tryz.sizeOf163
 v46:=Tryz.zeroValue163
 t51:=Tryz.underlying184
 a51:=Tryz.isAgg184
 z51:=Tryz.sizeOf184
 v51:=Tryz.zeroValue184
 t53:=Tryz.underlying40
 a53:=Tryz.isAgg40
 z53:=Tryz.sizeOf40
 v53:=Tryz.zeroValue40 }
theorem Tryz.bits_Len (x:Int) (w:World) (h0:0<=x) (h1:x<=18446744073709551615) :
  Calls Tryz.prog 197 #[.int .u64 x] w fun e w'=>e=.returned (.int .i64 (Lib.bitLen x.toNat))/\w'=w:=Any.bits_Len Tryz.lays125 x w h0 h1
def Tryz.lays119_ren:Go.Shelf.Ren:=⟨fun|119=>214|n=>n,fun|21=>21|4=>4|n=>n,fun|n=>n⟩
theorem Tryz.lays119:Go.Proofs.Lays.n119 Tryz.prog Tryz.lays119_ren:={
 mixed:=by kernel_rfl
 f119:=Tryz.func214.trans (congrArg some (by kernel_rfl))
 t4:=Tryz.underlying4
 a4:=Tryz.isAgg4
 z4:=Tryz.sizeOf4
 v4:=Tryz.zeroValue4
 t21:=Tryz.underlying21
 a21:=Tryz.isAgg21
 z21:=Tryz.sizeOf21
 v21:=Tryz.zeroValue21 }
theorem Tryz.utf8_ValidRune (r:Int) (w:World) :
  Calls Tryz.prog 214 #[.int .i32 r] w fun e w'=>e=.returned (.bool (Lib.validRune r))/\w'=w:=Any.utf8_ValidRune Tryz.lays119 r w
def Tryz.lays152_ren:Go.Shelf.Ren:=⟨fun|152=>189|137=>159|119=>214|224=>147|225=>146|217=>145|266=>181|n=>n,fun|9=>9|21=>21|3=>3|4=>4|5=>5|0=>0|46=>163|n=>n,fun|n=>n⟩
theorem Tryz.lays152:Go.Proofs.Lays.n152 Tryz.prog Tryz.lays152_ren:={
 mixed:=by kernel_rfl
 f119:=Tryz.func214.trans (congrArg some (by kernel_rfl))
 f137:=Tryz.func159.trans (congrArg some (by kernel_rfl))
 f152:=Tryz.func189.trans (congrArg some (by kernel_rfl))
 f217:=Tryz.func145.trans (congrArg some (by kernel_rfl))
 f224:=Tryz.func147.trans (congrArg some (by kernel_rfl))
 f225:=Tryz.func146.trans (congrArg some (by kernel_rfl))
 f266:=Tryz.func181.trans (congrArg some (by kernel_rfl))
 t0:=Tryz.underlying0
 a0:=Tryz.isAgg0
 z0:=Tryz.sizeOf0
 v0:=Tryz.zeroValue0
 t3:=Tryz.underlying3
 a3:=Tryz.isAgg3
 z3:=Tryz.sizeOf3
 v3:=Tryz.zeroValue3
 t4:=Tryz.underlying4
 a4:=Tryz.isAgg4
 z4:=Tryz.sizeOf4
 v4:=Tryz.zeroValue4
 t5:=Tryz.underlying5
 a5:=Tryz.isAgg5
 z5:=Tryz.sizeOf5
 v5:=Tryz.zeroValue5
 t9:=Tryz.underlying9
 a9:=Tryz.isAgg9
 z9:=Tryz.sizeOf9
 v9:=Tryz.zeroValue9
 t21:=Tryz.underlying21
 a21:=Tryz.isAgg21
 z21:=Tryz.sizeOf21
 v21:=Tryz.zeroValue21
 t46:=Tryz.underlying163
 a46:=Tryz.isAgg163
 z46:=Tryz.sizeOf163
 v46:=Tryz.zeroValue163 }
open Go.RowKit Go.Lib in
theorem Tryz.strings_IndexRune_ascii (s:ByteArray) (r:Int) (w:World) (h0:0<=r) (h1:r<128) :
  Calls Tryz.prog 189 #[.string s,.int .i32 r] w fun e w'=>e=.returned (.int .i64 (Lib.indexByte s.data.toList r.toNat.toUInt8))/\w'=w:=Any.strings_IndexRune_ascii Tryz.lays152 s r w h0 h1
def Tryz.lays226_ren:Go.Shelf.Ren:=⟨fun|226=>190|n=>n,fun|3=>3|4=>4|n=>n,fun|n=>n⟩
theorem Tryz.lays226:Go.Proofs.Lays.n226 Tryz.prog Tryz.lays226_ren:={
 mixed:=by kernel_rfl
 f226:=Tryz.func190.trans (congrArg some (by kernel_rfl))
 t3:=Tryz.underlying3
 a3:=Tryz.isAgg3
 z3:=Tryz.sizeOf3
 v3:=Tryz.zeroValue3
 t4:=Tryz.underlying4
 a4:=Tryz.isAgg4
 z4:=Tryz.sizeOf4
 v4:=Tryz.zeroValue4 }
open Go.RowKit Go.Lib in
theorem Tryz.strings_shouldUseASCIISet (n:Int) (w:World) :
  Calls Tryz.prog 190 #[.int .i64 n] w fun e w'=>e=.returned (.bool (decide (8<n)))/\w'=w:=Any.strings_shouldUseASCIISet Tryz.lays226 n w
def Tryz.lays153_ren:Go.Shelf.Ren:=⟨fun|153=>158|152=>189|226=>190|227=>191|228=>192|137=>159|119=>214|224=>147|225=>146|217=>145|266=>181|n=>n,fun|9=>9|3=>3|4=>4|5=>5|21=>21|117=>197|116=>196|0=>0|46=>163|124=>216|n=>n,fun|n=>n⟩
theorem Tryz.lays153:Go.Proofs.Lays.n153 Tryz.prog Tryz.lays153_ren:={
 mixed:=by kernel_rfl
 f119:=Tryz.func214.trans (congrArg some (by kernel_rfl))
 f137:=Tryz.func159.trans (congrArg some (by kernel_rfl))
 f152:=Tryz.func189.trans (congrArg some (by kernel_rfl))
 f153:=Tryz.func158.trans (congrArg some (by kernel_rfl))
 f217:=Tryz.func145.trans (congrArg some (by kernel_rfl))
 f224:=Tryz.func147.trans (congrArg some (by kernel_rfl))
 f225:=Tryz.func146.trans (congrArg some (by kernel_rfl))
 f226:=Tryz.func190.trans (congrArg some (by kernel_rfl))
 f227:=Tryz.func191.trans (congrArg some (by kernel_rfl))
 f228:=Tryz.func192.trans (congrArg some (by kernel_rfl))
 f266:=Tryz.func181.trans (congrArg some (by kernel_rfl))
 t0:=Tryz.underlying0
 a0:=Tryz.isAgg0
 z0:=Tryz.sizeOf0
 v0:=Tryz.zeroValue0
 t3:=Tryz.underlying3
 a3:=Tryz.isAgg3
 z3:=Tryz.sizeOf3
 v3:=Tryz.zeroValue3
 t4:=Tryz.underlying4
 a4:=Tryz.isAgg4
 z4:=Tryz.sizeOf4
 v4:=Tryz.zeroValue4
 t5:=Tryz.underlying5
 a5:=Tryz.isAgg5
 z5:=Tryz.sizeOf5
 v5:=Tryz.zeroValue5
 t9:=Tryz.underlying9
 a9:=Tryz.isAgg9
 z9:=Tryz.sizeOf9
 v9:=Tryz.zeroValue9
 t21:=Tryz.underlying21
 a21:=Tryz.isAgg21
 z21:=Tryz.sizeOf21
 v21:=Tryz.zeroValue21
 t46:=Tryz.underlying163
 a46:=Tryz.isAgg163
 z46:=Tryz.sizeOf163
 v46:=Tryz.zeroValue163
 t116:=Tryz.underlying196
 a116:=Tryz.isAgg196
 z116:=Tryz.sizeOf196
 t117:=Tryz.underlying197
 a117:=Tryz.isAgg197
 z117:=Tryz.sizeOf197
 v117:=Tryz.zeroValue197
 t124:=Tryz.underlying216
 a124:=Tryz.isAgg216
 z124:=Tryz.sizeOf216
 v124:=Tryz.zeroValue216 }
open Go.RowKit Go.Lib in
theorem Tryz.strings_IndexAny_long (hv116:∀w,(zeroValue 196).run Tryz.prog w=.ok (.agg (Array.replicate 256 (.bool false))) w) (s chars:ByteArray) (w:World) (h2:2<=chars.size) (h8:8<s.size) (hs:s.size<4294967281) (hcs:chars.size<4294967281) (hascii:∀(j:Nat) b,chars.data.toList[j]? = some b->b.toNat<128) :
  Calls Tryz.prog 158 #[.string s,.string chars] w fun e w'=>e=.returned (.int .i64 (Lib.indexAny s.data.toList chars.data.toList))/\w'=((w.alloc (.cells (Lib.setCells chars.data.toList) 196)).alloc (.cells (Lib.setCells chars.data.toList) 196)):=Any.strings_IndexAny_long Tryz.lays153 hv116 (by kernel_rfl) s chars w h2 h8 hs hcs hascii
def Tryz.lays103_ren:Go.Shelf.Ren:=⟨fun|103=>15|210=>31|206=>60|n=>n,fun|9=>9|4=>4|24=>53|3=>3|n=>n,fun|n=>n⟩
theorem Tryz.lays103:Go.Proofs.Lays.n103 Tryz.prog Tryz.lays103_ren:={
 mixed:=by kernel_rfl
 f103:=Tryz.func15.trans (congrArg some (by kernel_rfl))
 f206:=Tryz.func60.trans (congrArg some (by kernel_rfl))
 f210:=Tryz.func31.trans (congrArg some (by kernel_rfl))
 t3:=Tryz.underlying3
 a3:=Tryz.isAgg3
 z3:=Tryz.sizeOf3
 v3:=Tryz.zeroValue3
 t4:=Tryz.underlying4
 a4:=Tryz.isAgg4
 z4:=Tryz.sizeOf4
 v4:=Tryz.zeroValue4
 t9:=Tryz.underlying9
 a9:=Tryz.isAgg9
 z9:=Tryz.sizeOf9
 v9:=Tryz.zeroValue9
 t24:=Tryz.underlying53
 a24:=Tryz.isAgg53
 z24:=Tryz.sizeOf53
 v24:=Tryz.zeroValue53 }
open Go.RowKit in
theorem Tryz.strings_CutPrefix (s p:ByteArray) (w:World) :
  Calls Tryz.prog 15 #[.string s,.string p] w fun e w'=>e=.returned (.tuple #[.string ⟨(Lib.trimPrefix s.data.toList p.data.toList).toArray⟩,.bool (Lib.hasPrefix s.data.toList p.data.toList)])/\w'=w:=Any.strings_CutPrefix Tryz.lays103 s p w
def Tryz.hasFld_ren:Go.Shelf.Ren:=⟨fun|8=>154|6=>184|n=>n,fun|22=>37|23=>45|25=>159|4=>4|3=>3|0=>0|n=>n,fun|n=>n⟩
theorem Tryz.hasFld:Go.Proofs.SlLaysH0.n8 Tryz.prog Tryz.hasFld_ren:={
 mixed:=by kernel_rfl
 f6:=⟨Tryz.f184.name,by decide,Tryz.func184.trans (congrArg some (by kernel_rfl))⟩
 f8:=⟨Tryz.f154.name,by decide,Tryz.func154.trans (congrArg some (by kernel_rfl))⟩
 t0:=Tryz.underlying0
 a0:=Tryz.isAgg0
 z0:=Tryz.sizeOf0
 v0:=Tryz.zeroValue0
 t3:=Tryz.underlying3
 a3:=Tryz.isAgg3
 z3:=Tryz.sizeOf3
 v3:=Tryz.zeroValue3
 t4:=Tryz.underlying4
 a4:=Tryz.isAgg4
 z4:=Tryz.sizeOf4
 v4:=Tryz.zeroValue4
 t22:=Tryz.underlying37
 a22:=Tryz.isAgg37
 z22:=Tryz.sizeOf37
 v22:=Tryz.zeroValue37
 t25:=Tryz.underlying159
 a25:=Tryz.isAgg159
 z25:=Tryz.sizeOf159
 v25:=Tryz.zeroValue159 }
def Tryz.insFld_ren:Go.Shelf.Ren:=⟨fun|20=>231|n=>n,fun|24=>45|22=>37|3=>3|25=>191|4=>4|0=>0|n=>n,fun|n=>n⟩
theorem Tryz.insFld:Go.Proofs.SlLaysF0.n20 Tryz.prog Tryz.insFld_ren:={
 mixed:=by kernel_rfl
 f20:=⟨Tryz.f231.name,by decide,Tryz.func231.trans (congrArg some (by kernel_rfl))⟩
 t0:=Tryz.underlying0
 a0:=Tryz.isAgg0
 z0:=Tryz.sizeOf0
 v0:=Tryz.zeroValue0
 t3:=Tryz.underlying3
 a3:=Tryz.isAgg3
 z3:=Tryz.sizeOf3
 v3:=Tryz.zeroValue3
 t4:=Tryz.underlying4
 a4:=Tryz.isAgg4
 z4:=Tryz.sizeOf4
 v4:=Tryz.zeroValue4
 t22:=Tryz.underlying37
 a22:=Tryz.isAgg37
 z22:=Tryz.sizeOf37
 v22:=Tryz.zeroValue37
 t25:=Tryz.underlying191
 a25:=Tryz.isAgg191
 z25:=Tryz.sizeOf191
 v25:=Tryz.zeroValue191 }
def Tryz.hasTrm_ren:Go.Shelf.Ren:=⟨fun|8=>193|6=>215|n=>n,fun|22=>39|23=>49|25=>170|4=>4|3=>3|0=>0|n=>n,fun|n=>n⟩
theorem Tryz.hasTrm:Go.Proofs.SlLaysH0.n8 Tryz.prog Tryz.hasTrm_ren:={
 mixed:=by kernel_rfl
 f6:=⟨Tryz.f215.name,by decide,Tryz.func215.trans (congrArg some (by kernel_rfl))⟩
 f8:=⟨Tryz.f193.name,by decide,Tryz.func193.trans (congrArg some (by kernel_rfl))⟩
 t0:=Tryz.underlying0
 a0:=Tryz.isAgg0
 z0:=Tryz.sizeOf0
 v0:=Tryz.zeroValue0
 t3:=Tryz.underlying3
 a3:=Tryz.isAgg3
 z3:=Tryz.sizeOf3
 v3:=Tryz.zeroValue3
 t4:=Tryz.underlying4
 a4:=Tryz.isAgg4
 z4:=Tryz.sizeOf4
 v4:=Tryz.zeroValue4
 t22:=Tryz.underlying39
 a22:=Tryz.isAgg39
 z22:=Tryz.sizeOf39
 v22:=Tryz.zeroValue39
 t25:=Tryz.underlying170
 a25:=Tryz.isAgg170
 z25:=Tryz.sizeOf170
 v25:=Tryz.zeroValue170 }
def Tryz.sortTrm_ren:Go.Shelf.Ren:=⟨fun|6=>163|15=>197|14=>196|28=>224|29=>208|20=>216|21=>217|22=>218|23=>219|24=>220|25=>221|26=>222|27=>223|46=>233|47=>234|48=>235|49=>236|50=>237|57=>240|n=>n,fun|22=>39|24=>49|25=>173|3=>3|39=>163|0=>0|53=>184|55=>40|4=>4|46=>220|45=>219|50=>111|5=>5|9=>9|66=>232|70=>236|76=>243|77=>244|n=>n,fun|n=>n⟩
theorem Tryz.sortTrm:Go.Proofs.SlLaysF0.n6 Tryz.prog Tryz.sortTrm_ren:={
 mixed:=by kernel_rfl
 f6:=⟨Tryz.f163.name,by decide,Tryz.func163.trans (congrArg some (by kernel_rfl))⟩
 f14:=⟨Tryz.f196.name,by decide,Tryz.func196.trans (congrArg some (by kernel_rfl))⟩
 f15:=Tryz.func197.trans (congrArg some (by kernel_rfl))
 f20:=⟨Tryz.f216.name,by decide,Tryz.func216.trans (congrArg some (by kernel_rfl))⟩
 f21:=⟨Tryz.f217.name,by decide,Tryz.func217.trans (congrArg some (by kernel_rfl))⟩
 f22:=⟨Tryz.f218.name,by decide,Tryz.func218.trans (congrArg some (by kernel_rfl))⟩
 f23:=⟨Tryz.f219.name,by decide,Tryz.func219.trans (congrArg some (by kernel_rfl))⟩
 f24:=⟨Tryz.f220.name,by decide,Tryz.func220.trans (congrArg some (by kernel_rfl))⟩
 f25:=⟨Tryz.f221.name,by decide,Tryz.func221.trans (congrArg some (by kernel_rfl))⟩
 f26:=⟨Tryz.f222.name,by decide,Tryz.func222.trans (congrArg some (by kernel_rfl))⟩
 f27:=⟨Tryz.f223.name,by decide,Tryz.func223.trans (congrArg some (by kernel_rfl))⟩
 f28:=Tryz.func224.trans (congrArg some (by kernel_rfl))
 f29:=Tryz.func208.trans (congrArg some (by kernel_rfl))
 f46:=⟨Tryz.f233.name,by decide,Tryz.func233.trans (congrArg some (by kernel_rfl))⟩
 f47:=Tryz.func234.trans (congrArg some (by kernel_rfl))
 f48:=Tryz.func235.trans (congrArg some (by kernel_rfl))
 f49:=⟨Tryz.f236.name,by decide,Tryz.func236.trans (congrArg some (by kernel_rfl))⟩
 f50:=⟨Tryz.f237.name,by decide,Tryz.func237.trans (congrArg some (by kernel_rfl))⟩
 f57:=⟨Tryz.f240.name,by decide,Tryz.func240.trans (congrArg some (by kernel_rfl))⟩
 t0:=Tryz.underlying0
 a0:=Tryz.isAgg0
 z0:=Tryz.sizeOf0
 v0:=Tryz.zeroValue0
 t3:=Tryz.underlying3
 a3:=Tryz.isAgg3
 z3:=Tryz.sizeOf3
 v3:=Tryz.zeroValue3
 t4:=Tryz.underlying4
 a4:=Tryz.isAgg4
 z4:=Tryz.sizeOf4
 v4:=Tryz.zeroValue4
 t5:=Tryz.underlying5
 a5:=Tryz.isAgg5
 z5:=Tryz.sizeOf5
 v5:=Tryz.zeroValue5
 t9:=Tryz.underlying9
 a9:=Tryz.isAgg9
 z9:=Tryz.sizeOf9
 v9:=Tryz.zeroValue9
 t22:=Tryz.underlying39
 a22:=Tryz.isAgg39
 z22:=Tryz.sizeOf39
 v22:=Tryz.zeroValue39
 t25:=Tryz.underlying173
 a25:=Tryz.isAgg173
 z25:=Tryz.sizeOf173
 v25:=Tryz.zeroValue173
 t39:=Tryz.underlying163
 a39:=Tryz.isAgg163
 z39:=Tryz.sizeOf163
 v39:=Tryz.zeroValue163
 t45:=Tryz.underlying219
 a45:=Tryz.isAgg219
 z45:=Tryz.sizeOf219
 v45:=Tryz.zeroValue219
 t46:=Tryz.underlying220
 a46:=Tryz.isAgg220
 z46:=Tryz.sizeOf220
 v46:=Tryz.zeroValue220
 t50:=Tryz.underlying111
 a50:=Tryz.isAgg111
 z50:=Tryz.sizeOf111
 v50:=Tryz.zeroValue111
 t53:=Tryz.underlying184
 a53:=Tryz.isAgg184
 z53:=Tryz.sizeOf184
 v53:=Tryz.zeroValue184
 t55:=Tryz.underlying40
 a55:=Tryz.isAgg40
 z55:=Tryz.sizeOf40
 v55:=Tryz.zeroValue40
 t66:=Tryz.underlying232
 a66:=Tryz.isAgg232
 z66:=Tryz.sizeOf232
 v66:=Tryz.zeroValue232
 t70:=Tryz.underlying236
 a70:=Tryz.isAgg236
 z70:=Tryz.sizeOf236
 v70:=Tryz.zeroValue236
 t76:=Tryz.underlying243
 a76:=Tryz.isAgg243
 z76:=Tryz.sizeOf243
 v76:=Tryz.zeroValue243
 t77:=Tryz.underlying244
 a77:=Tryz.isAgg244
 z77:=Tryz.sizeOf244
 v77:=Tryz.zeroValue244 }
def Tryz.hasEdt_ren:Go.Shelf.Ren:=⟨fun|8=>140|6=>179|n=>n,fun|22=>38|23=>47|25=>161|4=>4|3=>3|0=>0|n=>n,fun|n=>n⟩
theorem Tryz.hasEdt:Go.Proofs.SlLaysH0.n8 Tryz.prog Tryz.hasEdt_ren:={
 mixed:=by kernel_rfl
 f6:=⟨Tryz.f179.name,by decide,Tryz.func179.trans (congrArg some (by kernel_rfl))⟩
 f8:=⟨Tryz.f140.name,by decide,Tryz.func140.trans (congrArg some (by kernel_rfl))⟩
 t0:=Tryz.underlying0
 a0:=Tryz.isAgg0
 z0:=Tryz.sizeOf0
 v0:=Tryz.zeroValue0
 t3:=Tryz.underlying3
 a3:=Tryz.isAgg3
 z3:=Tryz.sizeOf3
 v3:=Tryz.zeroValue3
 t4:=Tryz.underlying4
 a4:=Tryz.isAgg4
 z4:=Tryz.sizeOf4
 v4:=Tryz.zeroValue4
 t22:=Tryz.underlying38
 a22:=Tryz.isAgg38
 z22:=Tryz.sizeOf38
 v22:=Tryz.zeroValue38
 t25:=Tryz.underlying161
 a25:=Tryz.isAgg161
 z25:=Tryz.sizeOf161
 v25:=Tryz.zeroValue161 }
def Tryz.eqTrm_ren:Go.Shelf.Ren:=⟨fun|8=>103|n=>n,fun|22=>39|24=>49|4=>4|3=>3|0=>0|n=>n,fun|n=>n⟩
theorem Tryz.eqTrm:Go.Proofs.SlLaysQ.n8 Tryz.prog Tryz.eqTrm_ren:={
 mixed:=by kernel_rfl
 f8:=⟨Tryz.f103.name,by decide,Tryz.func103.trans (congrArg some (by kernel_rfl))⟩
 t0:=Tryz.underlying0
 a0:=Tryz.isAgg0
 z0:=Tryz.sizeOf0
 v0:=Tryz.zeroValue0
 t3:=Tryz.underlying3
 a3:=Tryz.isAgg3
 z3:=Tryz.sizeOf3
 v3:=Tryz.zeroValue3
 t4:=Tryz.underlying4
 a4:=Tryz.isAgg4
 z4:=Tryz.sizeOf4
 v4:=Tryz.zeroValue4
 t22:=Tryz.underlying39
 a22:=Tryz.isAgg39
 z22:=Tryz.sizeOf39
 v22:=Tryz.zeroValue39 }
end Go.Proofs
namespace Go.Proofs.YtjeogllmpjihaaaGreatDoor
end Go.Proofs.YtjeogllmpjihaaaGreatDoor
namespace Go.Proofs
open Go.Shelf
def Tryz.lays110_ren:Go.Shelf.Ren:=⟨fun|110=>34|109=>65|n=>n,fun|31=>43|9=>9|4=>4|3=>3|0=>0|n=>n,fun|n=>n⟩
theorem Tryz.lays110:Go.Proofs.Lays.n110 Tryz.prog Tryz.lays110_ren:={
 mixed:=by kernel_rfl
 f109:=Tryz.func65.trans (congrArg some (by kernel_rfl))
 f110:=Tryz.func34.trans (congrArg some (by kernel_rfl))
 t0:=Tryz.underlying0
 a0:=Tryz.isAgg0
 z0:=Tryz.sizeOf0
 v0:=Tryz.zeroValue0
 t3:=Tryz.underlying3
 a3:=Tryz.isAgg3
 z3:=Tryz.sizeOf3
 v3:=Tryz.zeroValue3
 t4:=Tryz.underlying4
 a4:=Tryz.isAgg4
 z4:=Tryz.sizeOf4
 v4:=Tryz.zeroValue4
 t9:=Tryz.underlying9
 a9:=Tryz.isAgg9
 z9:=Tryz.sizeOf9
 v9:=Tryz.zeroValue9
 t31:=Tryz.underlying43
 a31:=Tryz.isAgg43
 z31:=Tryz.sizeOf43
 v31:=Tryz.zeroValue43 }
open Go.Lib in
theorem Tryz.slices_Contains_string (b off n c:Nat) (zs:List ByteArray) (x:ByteArray) (w:World) (hz:n<=zs.length) (hbig:n<=9223372036854775807) (hc:∀j,j<zs.length->w.cell? ⟨b,off+j,none⟩=some (.string (zs.getD j ByteArray.empty))) :
  Calls Tryz.prog 34 #[.slice (some ⟨b,off,none⟩) n c,.string x] w fun e w'=>e=.returned (.bool (Lib.containsS (zs.take n) x))/\w'=w:=Any.slices_Contains_string Tryz.lays110 b off n c zs x w hz hbig hc
def Tryz.lays109_ren:Go.Shelf.Ren:=⟨fun|109=>65|n=>n,fun|31=>43|9=>9|3=>3|0=>0|4=>4|n=>n,fun|n=>n⟩
theorem Tryz.lays109:Go.Proofs.Lays.n109 Tryz.prog Tryz.lays109_ren:={
 mixed:=by kernel_rfl
 f109:=Tryz.func65.trans (congrArg some (by kernel_rfl))
 t0:=Tryz.underlying0
 a0:=Tryz.isAgg0
 z0:=Tryz.sizeOf0
 v0:=Tryz.zeroValue0
 t3:=Tryz.underlying3
 a3:=Tryz.isAgg3
 z3:=Tryz.sizeOf3
 v3:=Tryz.zeroValue3
 t4:=Tryz.underlying4
 a4:=Tryz.isAgg4
 z4:=Tryz.sizeOf4
 v4:=Tryz.zeroValue4
 t9:=Tryz.underlying9
 a9:=Tryz.isAgg9
 z9:=Tryz.sizeOf9
 v9:=Tryz.zeroValue9
 t31:=Tryz.underlying43
 a31:=Tryz.isAgg43
 z31:=Tryz.sizeOf43
 v31:=Tryz.zeroValue43 }
open Go.Lib in
theorem Tryz.slices_Index_string (b off n c:Nat) (zs:List ByteArray) (x:ByteArray) (w:World) (hz:n<=zs.length) (hbig:n<=9223372036854775807) (hc:∀j,j<zs.length->w.cell? ⟨b,off+j,none⟩=some (.string (zs.getD j ByteArray.empty))) :
  Calls Tryz.prog 65 #[.slice (some ⟨b,off,none⟩) n c,.string x] w fun e w'=>e=.returned (.int .i64 (Lib.idxOfS (zs.take n) x))/\w'=w:=Any.slices_Index_string Tryz.lays109 b off n c zs x w hz hbig hc
end Go.Proofs
namespace Go.Proofs.YtjeogllmpjihaaaGreatDoor
section
theorem vL (l:List UInt8) (c:UInt8) :
  (Lib.indexByte l c=-1/\c ∉ l)∨∃i:Nat,Lib.indexByte l c=(i:Int)/\i<l.length/\l[i]? = some c/\c ∉ l.take i:=by
 induction l with
 | nil=>left;exact ⟨rfl,by simp⟩
 | cons b l ih =>
  by_cases hb:b=c
  ·right;refine ⟨0,?_,by simp,by simp [hb],by simp⟩;unfold Lib.indexByte;simp [hb]
  ·have hbc:(b==c)=false:=by simp [hb]
   rcases ih with ⟨h1,h2⟩|⟨i,h1,h2,h3,h4⟩
   ·left;refine ⟨?_,?_⟩
    ·unfold Lib.indexByte;rw [hbc];simp [h1]
    ·simp only [List.mem_cons,not_or];exact ⟨fun h=>hb h.symm,h2⟩
   ·right;refine ⟨i+1,?_,by simp;omega,by simpa using h3,?_⟩
    ·unfold Lib.indexByte;rw [hbc,h1];have:((i:Int) == -1)=false:=by rw [beq_eq_false_iff_ne];omega
     simp [this]
    ·simp only [List.take_succ_cons,List.mem_cons,not_or];exact ⟨fun h=>hb h.symm,h4⟩
theorem zBI (l:List UInt8) (c:UInt8) (i:Nat) (h1:i<l.length) (h2:l[i]? = some c):l=l.take i++c::l.drop (i+1):=by
 have h3:l[i]=c:=by rw [List.getElem?_eq_getElem h1] at h2;exact Option.some.inj h2
 calc l=l.take i++l.drop i:=(List.take_append_drop i l).symm
  _=l.take i++c::l.drop (i+1):=by rw [List.drop_eq_getElem_cons h1,h3]
theorem zNH {a b a' b':List UInt8} {c:UInt8} (h:a++c::b=a'++c::b') (ha:c ∉ a) (ha':c ∉ a'):a=a'/\b=b':=by
 induction a generalizing a' with
 | nil =>
  cases a' with
  | nil=>simp at h;exact ⟨rfl,h⟩
  | cons x a'=>simp at h;simp [h.1] at ha'
 | cons x a ih =>
  cases a' with
  | nil=>simp at h;simp [h.1] at ha
  | cons y a' =>
   simp only [List.cons_append,List.cons.injEq] at h;simp only [List.mem_cons,not_or] at ha ha';obtain ⟨e1,e2⟩:=ih h.2 ha.2 ha'.2;exact ⟨by rw [h.1,e1],e2⟩
theorem zBq (s:ByteArray) (i:Nat):(s.extract 0 i).data.toList=s.data.toList.take i:=by
 rw [Lib.extract_data];simp
theorem jH (s:ByteArray) (i:Nat):(s.extract i s.size).data.toList=s.data.toList.drop i:=Lib.extract_to_end s i
end
section
open Go.RowKit
attribute [local go_sem] Oper.semAt_some
theorem zOH (l:List UInt8) (c:UInt8) (h:¬ Lib.indexByte l c=-1):(Lib.indexByte l c).toNat<l.length:=by
 rcases vL l c with ⟨h1,_⟩|⟨i,h1,h2,_⟩
 ·exact absurd h1 h
 ·rw [h1];simpa using h2
def zG (l:List UInt8):List (List UInt8) :=
 if h:Lib.indexByte l 32=-1 then [l] else l.take (Lib.indexByte l 32).toNat::zG (l.drop ((Lib.indexByte l 32).toNat+1))
 termination_by l.length
 decreasing_by have:=zOH l 32 h;rw [List.length_drop];omega
theorem wG {l:List UInt8} (h:Lib.indexByte l 32=-1):zG l=[l]:=by unfold zG;rw [dif_pos h]
theorem wO {l:List UInt8} {i:Nat} (h:Lib.indexByte l 32=(i:Int)):zG l=l.take i::zG (l.drop (i+1)):=by
 conv=>lhs;unfold zG
 rw [dif_neg (by rw [h];omega),h,Int.toNat_natCast]
abbrev Wd (M:Nat):Type:={ t:ByteArray // t.size<=M }
def zAa {M:Nat} (x:Wd M):Array Value:=#[.string x.1]
def zU {M:Nat} (xs:List (Wd M)):List (List UInt8):=xs.map fun x=>x.1.data.toList
def Kp3 (b1 b2 b3:Nat) (W W':World):Prop:=W'.heap[b1]? = W.heap[b1]?/\W'.heap[b2]? = W.heap[b2]?/\W'.heap[b3]? = W.heap[b3]?
def jG (b1 b2 b3:Nat) (t:ByteArray) (W:World):Prop :=
 W.heap[b1]? = some (.cells #[.string ⟨#[32]⟩] 9 (0,0))/\W.heap[b2]? = some (.cells #[.string t] 9 (0,0))/\W.heap[b3]? = some (.cells #[.int .i64 0] 3 (0,0))/\b1≠b2/\b3≠b2
def bC (b2:Nat) (W:World):Nat:=match W.cell? ⟨b2,0,none⟩ with
 | some (.string t)=>t.size
 | _=>0
def zIR {M:Nat} (b1 b2 b3:Nat) (s:ByteArray) (J:List (Wd M)->World->Prop) (wr:World):Prop :=
 ∃(pre:List (Wd M)) (t:ByteArray),jG b1 b2 b3 t wr/\t.size<=M/\zG s.data.toList=zU pre++zG t.data.toList/\J pre wr
theorem zB5 (l:List UInt8):0<(zG l).length:=by
 rcases vL l 32 with ⟨h,_⟩|⟨i,h,_⟩
 ·rw [wG h];simp
 ·rw [wO h];simp
theorem hU {b1 b2 b3:Nat} {t:ByteArray} {W:World} (h:jG b1 b2 b3 t W):W.cell? ⟨b1,0,none⟩=some (.string ⟨#[32]⟩)/\W.cell? ⟨b2,0,none⟩=some (.string t)/\W.cell? ⟨b3,0,none⟩=some (.int .i64 0)/\W.frozen? ⟨b2,0,none⟩=false :=
 ⟨by rw [Lib.cell_of_heap h.1];rfl,by rw [Lib.cell_of_heap h.2.1];rfl,by rw [Lib.cell_of_heap h.2.2.1];rfl,Lib.frozen_of_heap h.2.1 0⟩
theorem jG.kp {b1 b2 b3:Nat} {t:ByteArray} {W W':World} (h:jG b1 b2 b3 t W) (hk:Kp3 b1 b2 b3 W W'):jG b1 b2 b3 t W' :=
 ⟨hk.1.trans h.1,hk.2.1.trans h.2.1,hk.2.2.trans h.2.2.1,h.2.2.2⟩
theorem jG.put {b1 b2 b3:Nat} {t u:ByteArray} {W:World} (h:jG b1 b2 b3 t W):jG b1 b2 b3 u (W.setCell ⟨b2,0,none⟩ (.string u)) :=
 ⟨(Below.heap_setCell W (aa b2 0) _ b1 h.2.2.2.1).trans h.1,heap_setCell_same W b2 0 _ _ _ h.2.1,(Below.heap_setCell W (aa b2 0) _ b3 h.2.2.2.2).trans h.2.2.1,h.2.2.2⟩
theorem zCj {b1 b2 b3:Nat} {t:ByteArray} {W:World} (h:jG b1 b2 b3 t W):bC b2 W=t.size:=by
 unfold bC;rw [(hU h).2.1]
theorem zJ0 (n:Nat) (hn:1<=n) (M l b1 b2 b3:Nat) (s:ByteArray) (hs:s.size<=M) (hM:M<=maxLen) (J Jx:List (Wd M)->World->Prop)
  (hJ:∀s W v,J s W->J s (W.setCell ⟨b2,0,none⟩ v))
  (hY:∀pre x W,J pre W->pre.length<(zG s.data.toList).length->YieldAt Fence.wide (n-1) Tryz.prog l (zAa x) W fun e W' =>
   (e=.returned (.bool true)/\J (pre++[x]) W'/\Kp3 b1 b2 b3 W W')∨(e=.returned (.bool false)/\Jx (pre++[x]) W'))
  (W:World) (hB:jG b1 b2 b3 s W) (h0:J [] W) :
  CallsIn Fence.wide n Tryz.prog 61 #[.func (.yield l) #[] #[],.pointer (some ⟨b1,0,none⟩),.pointer (some ⟨b2,0,none⟩),.pointer (some ⟨b3,0,none⟩)] W fun e W'=>(∃v,e=.returned v) /\
   ((∃ys,zU ys=zG s.data.toList/\J ys W')∨(∃pre,zU pre <+: zG s.data.toList/\Jx pre W')):=by
 refine callsIn_of_wp Tryz.func61 rfl trivial ?_ rfl;simp only [Tryz.ntmps61,List.size_toArray,List.length_cons,List.length_nil,Nat.reduceAdd,Nat.reduceSub,Array.replicate_succ,Array.replicate_zero,List.push_toArray,List.append_toArray,List.nil_append,List.cons_append];have c1:W.cell? (aa b1 0)=some (tq ⟨#[32]⟩):=by rw [Lib.cell_of_heap hB.1];rfl
 have HB:=hid hB;clear hB
 gi_wp2
 clear c1;have ST0:Hid (zIR b1 b2 b3 s J W):=⟨[],s,HB.out,hs,rfl,h0⟩
 gi_loopw [7] (fun _ wr=>zIR b1 b2 b3 s J wr) (fun _ wr=>bC b2 wr)
 case atStart=>exact ST0.out
 case round =>
  obtain ⟨pre,t,hB,ht,hsp,hJs⟩:=hrel;obtain ⟨k1,k2,k3,k4⟩:=hU hB
  have hlen:pre.length<(zG s.data.toList).length:=by
   rw [hsp,List.length_append];have:=zB5 t.data.toList;have e:(zU pre).length=pre.length:=by simp [zU]
   omega
  unfold maxLen at hM
  rcases vL t.data.toList 32 with ⟨hix,_⟩|⟨i,hix,hil,_,_⟩
  ·have HX:=hid hix;have hsn:=wG hix
   have HF:Hid (zU (pre++[⟨t,ht⟩])=zG s.data.toList):=by
    show _=_
    rw [hsp,hsn];simp [zU]
   obtain ⟨fn,tmps,assign,body,hy,hR⟩:=hY pre ⟨t,ht⟩ wr hJs hlen;simp only [zAa] at hy;clear hix hsn hsp
   gi_wp2_with (refine ⟨trivial,?_⟩;gi_at_call 63;refine (callsIn_wide.2 (Tryz.strings_Index_one _ _ _)).mono ?_;rintro e w' ⟨rfl,rfl⟩;rw [HX.out])
   refine hR.mono ?_;rintro e W3 (⟨rfl,hJ3,_⟩|⟨rfl,hJx3⟩)
   ·gi_wp2
    go_end0
    exact ⟨⟨_,rfl⟩,.inl ⟨_,HF.out,hJ3⟩⟩
   ·gi_wp2
    go_end0
    exact ⟨⟨_,rfl⟩,.inr ⟨_,⟨[],by rw [HF.out];simp⟩,hJx3⟩⟩
  ·have HX:=hid hix;have hsn:=wO hix;have hil':i<t.size:=by simpa using hil
   have hxs:(t.extract 0 i).size<=M:=by simp;omega
   have e1:(t.extract 0 i).data.toList=t.data.toList.take i:=by rw [Lib.extract_data];simp
   have e2:(t.extract (i+1) t.size).data.toList=t.data.toList.drop (i+1):=Lib.extract_to_end t (i+1)
   have HF:Hid (zG s.data.toList=zU (pre++[(⟨t.extract 0 i,hxs⟩:Wd M)])++zG (t.extract (i+1) t.size).data.toList):=by
    show _=_
    rw [hsp,hsn,e2];simp only [zU,List.map_append,List.map_cons,List.map_nil,e1,List.append_assoc,List.cons_append,List.nil_append]
   obtain ⟨fn,tmps,assign,body,hy,hR⟩:=hY pre ⟨t.extract 0 i,hxs⟩ wr hJs hlen;simp only [zAa] at hy;have z0:(0:Int)<=(i:Int):=by omega
   have z1:(i:Int)<=(t.size:Int):=by omega
   have z2:(0:Int)<=(i:Int)+1:=by omega
   have z3:(i:Int)+1<=(t.size:Int):=by omega
   have HB2:=hid hB;clear hix hsn hsp e1 e2 hil hB
   gi_wp2_with (refine ⟨trivial,?_⟩;gi_at_call 63;refine (callsIn_wide.2 (Tryz.strings_Index_one _ _ _)).mono ?_;rintro e w' ⟨rfl,rfl⟩;rw [HX.out])
   refine hR.mono ?_;rintro e W3 (⟨rfl,hJ3,hk3⟩|⟨rfl,hJx3⟩)
   ·have hB3:=HB2.out.kp hk3;obtain ⟨m1,m2,m3,m4⟩:=hU hB3;have HJ3:=hid (hJ _ W3 (tq (t.extract (i+1) t.size)) hJ3);have HB4:Hid (jG b1 b2 b3 (t.extract (i+1) t.size) (W3.setCell (aa b2 0) (tq (t.extract (i+1) t.size)))):=hB3.put;have HM1:=hid (zCj HB2.out);have HM2:=hid (zCj HB4.out);clear hJ3 hB3 hk3
    gi_wp2
    go_roundw
    case rel=>exact ⟨_,_,HB4.out,by simp;omega,HF.out,HJ3.out⟩
    case measure=>rw [HM1.out,HM2.out];simp;omega
   ·gi_wp2
    refine bodyPost_ret (results_none rfl _ _ _) rfl ?_;exact ⟨⟨_,rfl⟩,.inr ⟨_,⟨_,HF.out.symm⟩,hJx3⟩⟩
theorem dI (n:Nat) (hn:1<=n) (M b1 b2 b3:Nat) (s:ByteArray) (hs:s.size<=M) (hM:M<=maxLen) (w:World) (hB:jG b1 b2 b3 s w) :
  zN9 Fence.wide n Tryz.prog 61 #[.pointer (some ⟨b1,0,none⟩),.pointer (some ⟨b2,0,none⟩),.pointer (some ⟨b3,0,none⟩)] (zAa (M:=M)) (Kp3 b1 b2 b3) (fun xs=>zU xs=zG s.data.toList) (fun pre=>zU pre <+: zG s.data.toList) (zG s.data.toList).length b2 w:=by
 intro l J Jx W hb hJ hY h0;have l1:b1<w.z:=(Array.getElem?_eq_some_iff.1 hB.1).1;have l2:b2<w.z:=(Array.getElem?_eq_some_iff.1 hB.2.1).1;have l3:b3<w.z:=(Array.getElem?_eq_some_iff.1 hB.2.2.1).1;exact zJ0 n hn M l b1 b2 b3 s hs hM J Jx hJ hY W (hB.kp ⟨hb.block _ l1,hb.block _ l2,hb.block _ l3⟩) h0
theorem jS (s:ByteArray) (w:World) :
  Calls Tryz.prog 16 #[.string s,.string ⟨#[32]⟩] w fun e w'=>e=.returned (.func (.func 61) #[] #[.pointer (some ⟨w.heap.size+1,0,none⟩),.pointer (some ⟨w.heap.size,0,none⟩),.pointer (some ⟨w.heap.size+2,0,none⟩)])/\jG (w.heap.size+1) w.heap.size (w.heap.size+2) s w'/\Below w.heap.size w w'/\w'.heap.size=w.heap.size+3:=by
 have hin:Calls Tryz.prog 32 #[tq s,tq ⟨#[32]⟩,ii 0] w fun e w'=>e=.returned (.func (.func 61) #[] #[.pointer (some (aa (w.heap.size+1) 0)),.pointer (some (aa w.heap.size 0)),.pointer (some (aa (w.heap.size+2) 0))])/\w'=((w.alloc (.cells #[tq s] 9)).alloc (.cells #[tq ⟨#[32]⟩] 9)).alloc (.cells #[ii 0] 3):=by
  go_enter Tryz.func32,Tryz.ntmps32
  go_wp2_with fail
  go_ret;exact ⟨rfl,rfl⟩
 have HI:=hid hin;clear hin;go_enter Tryz.func16,Tryz.ntmps16;go_wp2_with (first|(go_at_call 32;refine HI.out.mono ?_;rintro e w1 ⟨rfl,rfl⟩));go_ret;refine ⟨rfl,⟨?_,?_,?_,by omega,by omega⟩,(((Below.refl _ w).alloc (Nat.le_refl _) _).alloc (by simp) _).alloc (by simp;omega) _,by simp⟩
 ·rw [Below.heap_alloc _ _ _ (by simp)];have:=heap_alloc_new (w.alloc (.cells #[tq s] 9)) (.cells #[tq ⟨#[32]⟩] 9)
  simpa using this
 ·rw [Below.heap_alloc _ _ _ (by simp;omega),Below.heap_alloc _ _ _ (by simp)];exact heap_alloc_new w _
 ·have:=heap_alloc_new ((w.alloc (.cells #[tq s] 9)).alloc (.cells #[tq ⟨#[32]⟩] 9)) (.cells #[ii 0] 3)
  simpa using this
end
section
open Go.RowKit
theorem zND (s:ByteArray) (c:UInt8) (w:World) (hix:Lib.indexByte s.data.toList c=-1) :
  Calls Tryz.prog 151 #[.string s,.string ⟨#[c]⟩] w fun e w'=>e=.returned (.tuple #[.string s,.string ⟨#[]⟩,.bool false])/\w'=w:=by
 have HX:Hid (Lib.indexByte s.L c=-1):=hix;clear hix;go_enter Tryz.func151,Tryz.ntmps151;go_wp2_with (go_at_call 105;refine (Tryz.stringslite_Index_one _ _ _).mono ?_;rintro e w' ⟨rfl,rfl⟩;rw [HX.out])
 go_ret3
 exact ⟨rfl,rfl⟩
theorem zKi (s:ByteArray) (c:UInt8) (w:World) (i:Nat) (hix:Lib.indexByte s.data.toList c=(i:Int)) (hi:i<s.size) (hs:s.size<=maxLen) :
  Calls Tryz.prog 151 #[.string s,.string ⟨#[c]⟩] w fun e w'=>e=.returned (.tuple #[.string (s.extract 0 i),.string (s.extract (i+1) s.size),.bool true])/\∃n,w'=w.drewN n:=by
 have HX:Hid (Lib.indexByte s.data.toList c=(i:Int)):=hix;clear hix;unfold maxLen at hs;have c1:(0:Int)<=↑i:=by omega
 have c2:(↑i:Int)<=↑s.size:=by omega
 have c3:(0:Int)<=↑i+1:=by omega
 have c4:(↑i+1:Int)<=↑s.size:=by omega
 go_enter Tryz.func151,Tryz.ntmps151
 go_wp2_with (go_at_call 105;refine (Tryz.stringslite_Index_one _ _ _).mono ?_;rintro e w' ⟨rfl,rfl⟩;rw [HX.out])
 go_quiet (fail)
 go_wp2_with fail
 go_ret3
 exact ⟨rfl,_,rfl⟩
theorem zLK (s:ByteArray) (c:UInt8) (w:World) (hix:Lib.indexByte s.data.toList c=-1) :
  Calls Tryz.prog 111 #[.string s,.string ⟨#[c]⟩] w fun e w'=>e=.returned (.tuple #[.string s,.string ⟨#[]⟩,.bool false])/\w'=w:=by
 have HX:Hid (Lib.indexByte s.L c=-1):=hix;clear hix;go_enter Tryz.func111,Tryz.ntmps111;go_wp2_with (go_at_call 151;refine (zND _ _ _ HX.out).mono ?_;rintro e w' ⟨rfl,rfl⟩)
 go_ret3
 exact ⟨rfl,rfl⟩
theorem zAc (s:ByteArray) (c:UInt8) (w:World) (i:Nat) (hix:Lib.indexByte s.data.toList c=(i:Int)) (hi:i<s.size) (hs:s.size<=maxLen) :
  Calls Tryz.prog 111 #[.string s,.string ⟨#[c]⟩] w fun e w'=>e=.returned (.tuple #[.string (s.extract 0 i),.string (s.extract (i+1) s.size),.bool true])/\∃n,w'=w.drewN n:=by
 have HX:Hid (Lib.indexByte s.L c=(i:Int)):=hix;clear hix;go_enter Tryz.func111,Tryz.ntmps111;go_wp2_with (go_at_call 151;refine (zKi _ _ _ i HX.out hi hs).mono ?_;rintro e w' ⟨rfl,n,rfl⟩)
 go_ret3
 exact ⟨rfl,n,rfl⟩
end
section
open Go.RowKit
def qB:List (Int × Int):=[(97,122),(65,90),(48,57),(45,45),(46,46),(95,95),(124,124),(42,42),(64,64),(47,47),(58,58),(43,43),(44,44)]
def mC (i:Nat):Int:=(qB.getD i (0,0)).1
def nR (i:Nat):Int:=(qB.getD i (0,0)).2
def tT:Array Value:=#[.int .u8 97,.int .u8 122,.int .u8 65,.int .u8 90,.int .u8 48,.int .u8 57,.int .u8 45,.int .u8 45,.int .u8 46,.int .u8 46,.int .u8 95,.int .u8 95,.int .u8 124,.int .u8 124,
 .int .u8 42,.int .u8 42,.int .u8 64,.int .u8 64,.int .u8 47,.int .u8 47,.int .u8 58,.int .u8 58,.int .u8 43,.int .u8 43,.int .u8 44,.int .u8 44]
def xA (n:Int):Bool:=qB.any fun r=>decide (r.1<=n)&&decide (n<=r.2)
def zY (w:World):Prop:=∃t fr,w.heap[3]? = some (.cells tT t fr)
theorem zY.lt {w:World} (h:zY w):3<w.heap.size:=by
 obtain ⟨t,fr,h⟩:=h;exact (Array.getElem?_eq_some_iff.1 h).1
theorem zY.kept {w w':World} {n:Nat} (h:zY w) (hn:3<n) (hb:Below n w w'):zY w':=by
 obtain ⟨t,fr,h⟩:=h;exact ⟨t,fr,(hb.block _ hn).trans h⟩
theorem zY.on {w w':World} (h:zY w) (hb:Below w.heap.size w w'):zY w':=h.kept h.lt hb
theorem zEQ (i:Nat) (hi:i<13) (w:World):Sem.run Tryz.prog (Instr.index 209 (.agg tT) (.int .i64 i)) w=.ok (.agg #[.int .u8 (mC i),.int .u8 (nR i)]) w:=by
 have h:i=0∨i=1∨i=2∨i=3∨i=4∨i=5∨i=6∨i=7∨i=8∨i=9∨i=10∨i=11∨i=12:=by omega
 have z:(Go.sizeOf 208).run Tryz.prog w=.ok 2 w:=Tryz.sizeOf208 w
 rcases h with rfl|rfl|rfl|rfl|rfl|rfl|rfl|rfl|rfl|rfl|rfl|rfl|rfl <;>
  simp [Instr.index,run_underlying Tryz.underlying209,asIntOf,part,z,tT,mC,nR,qB,go_sem]
theorem zKx (n:Int) (i:Nat) (hi:i<13) (h1:mC i<=n) (h2:n<=nR i):xA n=true:=by
 unfold xA;rw [List.any_eq_true];refine ⟨qB.getD i (0,0),?_,?_⟩
 ·rw [List.getD_eq_getElem?_getD,List.getElem?_eq_getElem (show i<qB.length from hi)];exact List.getElem_mem _
 ·unfold mC at h1;unfold nR at h2;rw [Bool.and_eq_true,decide_eq_true_eq,decide_eq_true_eq];exact ⟨h1,h2⟩
theorem zKj (n:Int) (h:∀i,i<13->¬ (mC i<=n/\n<=nR i)):xA n=false:=by
 rw [Bool.eq_false_iff];intro ht;unfold xA at ht;rw [List.any_eq_true] at ht;obtain ⟨r,hr,h1⟩:=ht;obtain ⟨i,hi,rfl⟩:=List.mem_iff_getElem.1 hr;refine h i hi ?_;unfold mC nR;rw [List.getD_eq_getElem?_getD,List.getElem?_eq_getElem hi]
 simpa using h1
theorem wL (n:Int) (w:World) (hp:zY w):Calls Tryz.prog 170 #[.int .u8 n] w fun e w'=>e=.returned (.bool (xA n))/\Below w.heap.size w w':=by
 obtain ⟨t,fr,hrow⟩:=hp;have hin:(Tryz.prog.info? 209).map (·.size)=some tT.size:=by kernel_rfl
 have HX:Hid (∀i:Nat,i<13->∀w,Sem.run Tryz.prog (Instr.index 209 (.agg tT) (ii i)) w=.ok (.agg #[.int .u8 (mC i),.int .u8 (nR i)]) w):=zEQ
 generalize tT=tb at hrow hin HX
 have HR:=hid hrow;have HI:=hid hin;clear hrow hin;go_enter Tryz.func170,Tryz.ntmps170;go_wp2_with (refine wpList_load_row rfl 209 _ rfl 3 rfl _ _ _ _ HR.out Tryz.underlying209 rfl HI.out ?_)
 go_loopg [6] 13 (fun g vi wr=>∃i:Nat,vi=ii i/\i<=13/\13-i<=g/\Below w.heap.size w wr/\Hid (∀j,j<i->¬ (mC j<=n/\n<=nR j)))
 case atStart=>exact ⟨0,rfl,by omega,by omega,Below.refl _ _,fun j h=>by omega⟩
 case round =>
  obtain ⟨i,rfl,hi,hg,hb,HJ⟩:=hrel
  by_cases hlt:i<13
  ·have hltz:(i:Int)<13:=by omega
   have hx:=HX.out i hlt;go_wp2_with fail
   ·go_ret;exact ⟨zA (zKx n i hlt (by assumption) (by assumption)).symm,hb.alloc hb.size _⟩
   ·go_roundg (13-(i+1))
    case measure=>omega
    refine ⟨i+1,by go_num,by omega,by omega,hb.alloc hb.size _,?_⟩
    rename_i h1 h2
    intro j hj
    by_cases e:j=i
    ·subst e;omega
    ·exact HJ.out j (by omega)
   ·go_roundg (13-(i+1))
    case measure=>omega
    refine ⟨i+1,by go_num,by omega,by omega,hb.alloc hb.size _,?_⟩
    rename_i h1
    intro j hj
    by_cases e:j=i
    ·subst e;omega
    ·exact HJ.out j (by omega)
  ·have hltz:¬ (i:Int)<13:=by omega
   go_wp2_with fail
   go_ret;exact ⟨zA (zKj n fun j hj=>HJ.out j (by omega)).symm,hb⟩
end
section
open Go.RowKit
def zIJ:ByteArray:=⟨#[48,49,50,51,52,53,54,55,56,57,97,98,99,100,101,102]⟩
def sE (n:Nat):UInt8:=if n<10 then UInt8.ofNat (48+n) else UInt8.ofNat (87+n)
def vU (c:UInt8):List UInt8:=if xA (c.toNat:Int) then [c] else [37,sE (c.toNat / 16),sE (c.toNat % 16)]
def zI (l:List UInt8):List UInt8:=l.flatMap vU
theorem zEX (k:Nat) (h:k<16):(⟨#[48,49,50,51,52,53,54,55,56,57,97,98,99,100,101,102]⟩:ByteArray)[k]'h=sE k:=by
 have:k=0∨k=1∨k=2∨k=3∨k=4∨k=5∨k=6∨k=7∨k=8∨k=9∨k=10∨k=11∨k=12∨k=13∨k=14∨k=15:=by omega
 rcases this with rfl|rfl|rfl|rfl|rfl|rfl|rfl|rfl|rfl|rfl|rfl|rfl|rfl|rfl|rfl|rfl<;>rfl
theorem gI (c:UInt8) (l:List UInt8):zI (c::l)=vU c++zI l:=rfl
theorem zCQ (l m:List UInt8):zI (l++m)=zI l++zI m:=by simp [zI]
theorem zH7 (c:UInt8):(vU c).length<=3:=by unfold vU;split<;>simp
theorem wX (l:List UInt8):(zI l).length<=3 * l.length:=by
 induction l with
 | nil=>simp [zI]
 | cons c l ih=>rw [gI,List.length_append,List.length_cons];have:=zH7 c;omega
theorem zBE (s:ByteArray) (i:Nat) (h:i<s.size):s.data.toList.take (i+1)=s.data.toList.take i++[s[i]]:=by
 rw [List.take_succ_eq_append_getElem (by simpa using h)];rfl
theorem zBY (s:ByteArray) (i:Nat) (h:i<s.size):zI (s.data.toList.take (i+1))=zI (s.data.toList.take i)++vU s[i]:=by
 rw [zBE s i h,zCQ];simp [zI]
end
section
open Go.RowKit
def tU (c:UInt8):Int:=Lib.indexByte zIJ.data.toList c
def xK:List UInt8->Option (UInt8 × Nat)
 | []=>none
 | c::r=>if xA (c.toNat:Int) then some (c,1) else if c≠37 then none else
  match r with
  | a::b::_=>if tU a<0∨tU b<0 then none else
   if xA ((UInt8.ofNat (16 * (tU a).toNat+(tU b).toNat)).toNat:Int) then none else some (UInt8.ofNat (16 * (tU a).toNat+(tU b).toNat),3)
  | _=>none
def mI (o:Option (UInt8 × Nat)):Value:=match o with
 | some (c,n)=>.tuple #[.int .u8 c.toNat,.int .i64 n]
 | none=>.tuple #[.int .u8 0,.int .i64 0]
theorem zBX (c:UInt8):tU c=-1∨∃k:Nat,k<16/\tU c=k/\c=sE k:=by
 by_cases h:∃k,k<16/\c=sE k
 ·obtain ⟨k,hk,rfl⟩:=h;refine Or.inr ⟨k,hk,?_,rfl⟩;have:k=0∨k=1∨k=2∨k=3∨k=4∨k=5∨k=6∨k=7∨k=8∨k=9∨k=10∨k=11∨k=12∨k=13∨k=14∨k=15:=by omega
  rcases this with rfl|rfl|rfl|rfl|rfl|rfl|rfl|rfl|rfl|rfl|rfl|rfl|rfl|rfl|rfl|rfl<;>decide
 ·left;have hn:∀k,k<16->sE k≠c:=fun k hk e=>h ⟨k,hk,e.symm⟩
  have h0:=hn 0 (by decide);have h1:=hn 1 (by decide);have h2:=hn 2 (by decide);have h3:=hn 3 (by decide);have h4:=hn 4 (by decide);have h5:=hn 5 (by decide);have h6:=hn 6 (by decide);have h7:=hn 7 (by decide);have h8:=hn 8 (by decide);have h9:=hn 9 (by decide);have h10:=hn 10 (by decide);have h11:=hn 11 (by decide);have h12:=hn 12 (by decide);have h13:=hn 13 (by decide);have h14:=hn 14 (by decide);have h15:=hn 15 (by decide);unfold tU;show Lib.indexByte [48,49,50,51,52,53,54,55,56,57,97,98,99,100,101,102] c=-1;have g0:((48:UInt8)==c)=false:=beq_eq_false_iff_ne.2 h0;have g1:((49:UInt8)==c)=false:=beq_eq_false_iff_ne.2 h1;have g2:((50:UInt8)==c)=false:=beq_eq_false_iff_ne.2 h2;have g3:((51:UInt8)==c)=false:=beq_eq_false_iff_ne.2 h3;have g4:((52:UInt8)==c)=false:=beq_eq_false_iff_ne.2 h4;have g5:((53:UInt8)==c)=false:=beq_eq_false_iff_ne.2 h5;have g6:((54:UInt8)==c)=false:=beq_eq_false_iff_ne.2 h6;have g7:((55:UInt8)==c)=false:=beq_eq_false_iff_ne.2 h7;have g8:((56:UInt8)==c)=false:=beq_eq_false_iff_ne.2 h8;have g9:((57:UInt8)==c)=false:=beq_eq_false_iff_ne.2 h9;have g10:((97:UInt8)==c)=false:=beq_eq_false_iff_ne.2 h10;have g11:((98:UInt8)==c)=false:=beq_eq_false_iff_ne.2 h11;have g12:((99:UInt8)==c)=false:=beq_eq_false_iff_ne.2 h12;have g13:((100:UInt8)==c)=false:=beq_eq_false_iff_ne.2 h13;have g14:((101:UInt8)==c)=false:=beq_eq_false_iff_ne.2 h14;have g15:((102:UInt8)==c)=false:=beq_eq_false_iff_ne.2 h15;simp [Lib.indexByte,g0,g1,g2,g3,g4,g5,g6,g7,g8,g9,g10,g11,g12,g13,g14,g15]
theorem zFT (s:ByteArray) (w:World) (hp:zY w) (h0:0<s.size) (hpl:xA (s[0].toNat:Int)=true) :
  Calls Tryz.prog 183 #[.string s] w fun e w'=>e=.returned (.tuple #[.int .u8 s[0].toNat,.int .i64 1])/\Below w.heap.size w w':=by
 have HP:=hid hp;clear hp;go_enter Tryz.func183,Tryz.ntmps183;go_wp2_with (first|(go_at_call 170;refine (wL _ _ HP.out).mono ?_;rintro e w1 ⟨rfl,hb1⟩))
 go_ret2
 exact ⟨rfl,hb1⟩
theorem kU (s:ByteArray) (w:World) (hp:zY w) (h0:0<s.size) (hpl:xA (s[0].toNat:Int)=false) (hn:(s[0].toNat:Int)≠37∨s.size<3) :
  Calls Tryz.prog 183 #[.string s] w fun e w'=>e=.returned (.tuple #[.int .u8 0,.int .i64 0])/\Below w.heap.size w w':=by
 have HP:=hid hp;clear hp
 by_cases hc:(s[0].toNat:Int)=37
 ·have h3:(s.size:Int)<3:=by omega
  go_enter Tryz.func183,Tryz.ntmps183
  go_wp2_with (first|(go_at_call 170;refine (wL _ _ HP.out).mono ?_;rintro e w1 ⟨rfl,hb1⟩))
  go_ret2
  exact ⟨rfl,hb1⟩
 ·go_enter Tryz.func183,Tryz.ntmps183
  go_wp2_with (first|(go_at_call 170;refine (wL _ _ HP.out).mono ?_;rintro e w1 ⟨rfl,hb1⟩))
  go_ret2
  exact ⟨rfl,hb1⟩
theorem zAl (c:UInt8) (w:World):Calls Tryz.prog 159 #[.string ⟨#[48,49,50,51,52,53,54,55,56,57,97,98,99,100,101,102]⟩,.int .u8 c.toNat] w fun e w'=>e=.returned (.int .i64 (tU c))/\w'=w:=by
 refine (Tryz.strings_IndexByte _ _ w).mono ?_;rintro e w' ⟨rfl,rfl⟩;refine ⟨yY ?_,rfl⟩;unfold tU zIJ;simp
theorem zIa (s:ByteArray) (w:World) (hp:zY w) (h0:2<s.size) (hpl:xA (s[0].toNat:Int)=false) (hn:(s[0].toNat:Int)=37) (hab:tU s[1]<0∨tU s[2]<0) :
  Calls Tryz.prog 183 #[.string s] w fun e w'=>e=.returned (.tuple #[.int .u8 0,.int .i64 0])/\Below w.heap.size w w':=by
 have HP:=hid hp;obtain ⟨a,ha⟩:∃a,tU s[1]=a:=⟨_,rfl⟩;obtain ⟨b,hb⟩:∃b,tU s[2]=b:=⟨_,rfl⟩;rw [ha,hb] at hab;have h14:=hid (And.intro hpl hn);have HA:=hid ha;have HB:=hid hb;clear hp ha hb;have h3:¬ (s.size:Int)<3:=by omega
 have h11:1<s.size:=by omega
 have h12:(1:Int)<s.size:=by omega
 have h13:(2:Int)<s.size:=by omega
 by_cases h1:a<0
 ·clear hab;go_enter Tryz.func183,Tryz.ntmps183;go_wp2_with (first|(go_at_call 170;refine (wL _ _ HP.out).mono ?_;rintro e w1 ⟨rfl,hb1⟩))
  go_quiet (first|(go_at_call 159;refine Calls.quiet_of_same (zAl _ _)))
  rw [HA.out,HB.out];go_wp2_with fail
  go_ret2
  exact ⟨rfl,zP hb1 _⟩
 ·have h2:b<0:=by omega
  clear hab;go_enter Tryz.func183,Tryz.ntmps183;go_wp2_with (first|(go_at_call 170;refine (wL _ _ HP.out).mono ?_;rintro e w1 ⟨rfl,hb1⟩))
  go_quiet (first|(go_at_call 159;refine Calls.quiet_of_same (zAl _ _)))
  rw [HA.out,HB.out];go_wp2_with fail
  go_ret2
  exact ⟨rfl,zP hb1 _⟩
theorem zCs (a b:Nat) (ha:a<16) (hb:b<16):bits BinOp.or IntKind.i64 ((a:Int) * 16) b % 256=((16 * a+b:Nat):Int):=by
 have h:∀a b:Fin 16,bits BinOp.or IntKind.i64 ((a.val:Int) * 16) b.val % 256=((16 * a.val+b.val:Nat):Int):=by decide +kernel
 exact h ⟨a,ha⟩ ⟨b,hb⟩
theorem zGI (s:ByteArray) (w:World) (hp:zY w) (h0:2<s.size) (hpl:xA (s[0].toNat:Int)=false) (hn:(s[0].toNat:Int)=37) (a b k:Nat) (ha:tU s[1]=a) (hb:tU s[2]=b) (ha16:a<16) (hb16:b<16) (hk:k=16 * a+b) (hq:xA (k:Int)=true) :
  Calls Tryz.prog 183 #[.string s] w fun e w'=>e=.returned (.tuple #[.int .u8 0,.int .i64 0])/\Below w.heap.size w w':=by
 have HP:=hid hp;have HA:=hid ha;have HB:=hid hb;have HO:Hid (bits BinOp.or IntKind.i64 ((a:Int) * 16) b % 256=(k:Int)):=by rw [hk];exact zCs a b ha16 hb16
 have HQ:=hid hq;clear hp ha hb hk;have h3:¬ (s.size:Int)<3:=by omega
 have h11:1<s.size:=by omega
 have h12:(1:Int)<s.size:=by omega
 have h13:(2:Int)<s.size:=by omega
 have h14:=hid (And.intro hpl hn);go_enter Tryz.func183,Tryz.ntmps183;go_wp2_with (first|(go_at_call 170;refine (wL _ _ HP.out).mono ?_;rintro e w1 ⟨rfl,hb1⟩))
 go_quiet (first|(go_at_call 159;refine Calls.quiet_of_same (zAl _ _)))
 rw [HA.out,HB.out];have hb1':=zP hb1 nq;have HP2:zY (w1.drewN nq):=HP.out.on hb1';go_wp2_with (first|(go_at_call 170;rw [HO.out];refine (wL _ _ HP2).mono ?_;rintro e w2 ⟨rfl,hb2⟩;rw [HQ.out]))
 go_ret2
 exact ⟨rfl,hb1'.trans (hb2.mono hb1'.size)⟩
theorem zGz (s:ByteArray) (w:World) (hp:zY w) (h0:2<s.size) (hpl:xA (s[0].toNat:Int)=false) (hn:(s[0].toNat:Int)=37) (a b k:Nat) (ha:tU s[1]=a) (hb:tU s[2]=b) (ha16:a<16) (hb16:b<16) (hk:k=16 * a+b) (hq:xA (k:Int)=false) :
  Calls Tryz.prog 183 #[.string s] w fun e w'=>e=.returned (.tuple #[.int .u8 k,.int .i64 3])/\Below w.heap.size w w':=by
 have HP:=hid hp;have HA:=hid ha;have HB:=hid hb;have HO:Hid (bits BinOp.or IntKind.i64 ((a:Int) * 16) b % 256=(k:Int)):=by rw [hk];exact zCs a b ha16 hb16
 have HQ:=hid hq;clear hp ha hb hk;have h3:¬ (s.size:Int)<3:=by omega
 have h11:1<s.size:=by omega
 have h12:(1:Int)<s.size:=by omega
 have h13:(2:Int)<s.size:=by omega
 have h14:=hid (And.intro hpl hn);go_enter Tryz.func183,Tryz.ntmps183;go_wp2_with (first|(go_at_call 170;refine (wL _ _ HP.out).mono ?_;rintro e w1 ⟨rfl,hb1⟩))
 go_quiet (first|(go_at_call 159;refine Calls.quiet_of_same (zAl _ _)))
 rw [HA.out,HB.out];have hb1':=zP hb1 nq;have HP2:zY (w1.drewN nq):=HP.out.on hb1';go_wp2_with (first|(go_at_call 170;rw [HO.out];refine (wL _ _ HP2).mono ?_;rintro e w2 ⟨rfl,hb2⟩;rw [HQ.out]))
 go_ret2
 exact ⟨rfl,hb1'.trans (hb2.mono hb1'.size)⟩
theorem zDm:xA 37=false:=by decide
theorem zCd (s : ByteArray) (w : World) (hp : zY w) (h0 : 0 < s.size) :
    Calls Tryz.prog 183 #[.string s] w fun e w' => e = .returned (mI (xK s.data.toList)) /\ Below w.heap.size w w' := by
  obtain ⟨c, r, hl⟩ : ∃ c r, s.data.toList = c :: r := by
    cases h : s.data.toList with
    | nil => have : s.data.toList.length = s.size := by simp
             rw [h] at this; simp at this; omega
    | cons c r => exact ⟨c, r, rfl⟩
  have hlen : s.size = r.length + 1 := by
    have : s.data.toList.length = s.size := by simp
    rw [hl] at this; simp at this; omega
  have e0 : s[0] = c := by
    have := zAm s 0 h0;rw [<- this]; simp [hl]
  rw [hl]
  cases hpl : xA (c.toNat : Int) with
  | true =>
    refine (zFT s w hp h0 (by rw [e0]; exact hpl)).mono ?_;rintro e w' ⟨rfl, hb⟩;refine ⟨?_, hb⟩;rw [e0]; simp [xK, hpl, mI]
  | false =>
    by_cases hc : c = 37
    · subst hc
      match r, hl, hlen with
      | [], hl, hlen =>
        refine (kU s w hp h0 (by rw [e0]; exact hpl) (Or.inr (by rw [hlen]; simp))).mono ?_;rintro e w' ⟨rfl, hb⟩;exact ⟨by simp [xK, zDm, mI], hb⟩
      | [a], hl, hlen =>
        refine (kU s w hp h0 (by rw [e0]; exact hpl) (Or.inr (by rw [hlen]; simp))).mono ?_;rintro e w' ⟨rfl, hb⟩;exact ⟨by simp [xK, zDm, mI], hb⟩
      | a :: b :: t, hl, hlen =>
        have h2 : 2 < s.size := by rw [hlen]; simp
        have e1 : s[1] = a := by rw [<- zAm s 1 (by omega)]; simp [hl]
        have e2 : s[2] = b := by rw [<- zAm s 2 (by omega)]; simp [hl]
        have h37 : ((s[0].toNat : Nat) : Int) = 37 := by rw [e0]; rfl
        by_cases hab : tU a < 0 ∨ tU b < 0
        · refine (zIa s w hp h2 (by rw [e0]; exact hpl) h37 (by rw [e1, e2]; exact hab)).mono ?_
          rintro e w' ⟨rfl, hb⟩;exact ⟨by simp [xK, zDm, mI, hab], hb⟩
        · obtain ⟨x, hx, hxe, _⟩ : ∃ k : Nat, k < 16 /\ tU a = k /\ a = sE k := by
            rcases zBX a with h | h
            · omega
            · exact h
          obtain ⟨y, hy, hye, _⟩ : ∃ k : Nat, k < 16 /\ tU b = k /\ b = sE k := by
            rcases zBX b with h | h
            · omega
            · exact h
          have en : (UInt8.ofNat (16 * x + y)).toNat = 16 * x + y := by rw [UInt8.toNat_ofNat']; omega
          have hab' : ¬ ((x : Int) < 0 ∨ (y : Int) < 0) := by omega
          cases hq : xA ((16 * x + y : Nat) : Int)
          · refine (zGz s w hp h2 (by rw [e0]; exact hpl) h37 x y _ (by rw [e1]; exact hxe) (by rw [e2]; exact hye) hx hy rfl hq).mono ?_
            rintro e w' ⟨rfl, hb⟩;refine ⟨?_, hb⟩;simp only [xK, hpl, hxe, hye, if_neg hab', Int.toNat_natCast, en, hq]; simp [mI]; omega
          · refine (zGI s w hp h2 (by rw [e0]; exact hpl) h37 x y _ (by rw [e1]; exact hxe) (by rw [e2]; exact hye) hx hy rfl hq).mono ?_
            rintro e w' ⟨rfl, hb⟩;refine ⟨?_, hb⟩;simp only [xK, hpl, hxe, hye, if_neg hab', Int.toNat_natCast, en, hq]; simp [mI]
    · have h37 : ((s[0].toNat : Nat) : Int) ≠ 37 := by
        rw [e0];intro h
        exact hc (UInt8.toNat_inj.1 (by have : c.toNat = 37 := by omega
                                        rw [this]; rfl))
      refine (kU s w hp h0 (by rw [e0]; exact hpl) (Or.inl h37)).mono ?_;rintro e w' ⟨rfl, hb⟩;exact ⟨by simp [xK, hpl, mI, hc], hb⟩
end
section
open Go.RowKit Go.Shelf
theorem Tryz.infoByte:(Tryz.prog.info? 5).map (fun i=>(i.zero,i.size,i.bytes))=some (some (.int .u8 0),1,1):=by kernel_rfl
theorem Tryz.sizeBuilder:(Tryz.prog.info? 91).map (·.size)=some 2:=by kernel_rfl
theorem own_on {w w':World} {base:Nat} {e:TypeId} {size:Nat} {v:Value} {n:Nat} {xs:List Value} (h:w.ownsRow base e size v n xs) (hb:Below w.heap.size w w'):w'.ownsRow base e size v n xs :=
 h.kept (row:=none) ⟨hb.os,hb.tape,hb.output,hb.size,fun k hk _=>hb.block k hk⟩ (Classical.em _)
theorem zFc {T e:TypeId} {B b:Nat} {p:Value} {bs:List Value} {w w':World} (h:Lib.BuilderAt T e B b p bs w) (hb:Below w.heap.size w w'):Lib.BuilderAt T e B b p bs w':=by
 have hlt:=h.lt;obtain ⟨hB,v,hv,hown,hne⟩:=h;exact ⟨hB,v,(hb.block b hlt).trans hv,own_on hown hb,hne⟩
theorem zGk {T e:TypeId} {B b:Nat} {bs:List Value} {w w':World} (h:Lib.IsBuilder T e B b bs w) (hb:Below w.heap.size w w'):Lib.IsBuilder T e B b bs w' :=
 h.elim (fun x=>.inl (zFc x hb)) (fun x=>.inr (zFc x hb))
theorem zHK (b:Nat) (w:World) (h0:w.cell? ⟨b,0,none⟩=some (.pointer (some ⟨b,0,none⟩))) :
  Calls Tryz.prog 93 #[.pointer (some ⟨b,0,none⟩)] w fun e w'=>e=.returned (.tuple #[])/\w'=w:=by
 obtain ⟨j,hj,_⟩:=Option.map_eq_some_iff.1 Tryz.sizeBuilder;go_enter Tryz.func93,Tryz.ntmps93;go_wp2;rw [Lib.run_neq_ptr_same w _ Tryz.underlying88 hj];go_wp2
 go_end0
 exact ⟨rfl,rfl⟩
theorem zE1 (b:Nat) (w:World) (h0:w.cell? ⟨b,0,none⟩=some (.pointer none)) (hsh:w.shape? b=some (91,2)) (hfz:w.frozen? ⟨b,0,none⟩=false) :
  Calls Tryz.prog 93 #[.pointer (some ⟨b,0,none⟩)] w fun e w'=>e=.returned (.tuple #[])/\w'=w.setCell ⟨b,0,none⟩ (.pointer (some ⟨b,0,none⟩)):=by
 obtain ⟨j,hj,hjs⟩:=Option.map_eq_some_iff.1 Tryz.sizeBuilder;go_enter Tryz.func93,Tryz.ntmps93;go_wp2;rw [Lib.run_to_unsafe w (aa b 0) Tryz.underlying88 Tryz.underlying155 hj (by rw [hjs];decide) hsh (Nat.zero_lt_succ 1)];simp only [Result.andThen];rw [Oper.upon_value];go_wp2;rw [run_callFunc_extern Tryz.func134 (by kernel_rfl) (by kernel_rfl) (by kernel_rfl) (e:=Extern.AbiNoEscape.same) (by kernel_rfl)];rw [Lib.run_noEscape];simp only [Result.andThen];rw [Oper.upon_value];go_wp2;rw [Lib.run_from_unsafe w (aa b 0) Tryz.underlying155 Tryz.underlying88 hj hsh Tryz.Builder_Extra_169.liesBuilder];simp only [Result.andThen];rw [Oper.upon_value];go_wp2
 go_end0
 exact ⟨rfl,rfl⟩
theorem zJQ (B b:Nat) (bs:List Value) (w:World) (h:Lib.IsBuilder 91 5 B b bs w) :
  Calls Tryz.prog 93 #[.pointer (some ⟨b,0,none⟩)] w fun e w'=>e=.returned (.tuple #[])/\(Lib.BuilderAt 91 5 B b (.pointer (some ⟨b,0,none⟩)) bs w'/\Below B w w'):=by
 rcases h with h|h
 ·refine (zE1 b w h.cell0 h.shape h.frozen0).mono ?_;rintro e w' ⟨rfl,rfl⟩;exact ⟨rfl,h.used _,(Below.refl B w).setCell (p:=(aa b 0)) h.1 _⟩
 ·refine (zHK b w h.cell0).mono ?_;rintro e w' ⟨rfl,rfl⟩;exact ⟨rfl,h,Below.refl B _⟩
theorem mS (B b:Nat) (bs:List Value) (c:Int) (w:World) (h:Lib.IsBuilder 91 5 B b bs w) (hlen:bs.length+1<=140737488355328) (hBw:B<=w.heap.size) :
  Calls Tryz.prog 171 #[.pointer (some ⟨b,0,none⟩),.int .u8 c] w fun e w'=>e=.returned .nilIface/\Lib.IsBuilder 91 5 B b (bs++[.int .u8 c]) w'/\Below B w w':=by
 obtain ⟨i0,hi,hz0,hz1,hz2⟩:=info_parts Tryz.infoByte;go_enter Tryz.func171,Tryz.ntmps171;go_wp2_with (go_at_call 93;refine (zJQ B b bs _ h).mono ?_);rintro e w1 ⟨rfl,h1,hb1⟩;obtain ⟨hB,v,hbk,hown,hne⟩:=h1;have c0:w1.cell? (aa b 0)=some (.pointer (some (aa b 0))):=cz hbk;have c1:w1.cell? (aa b 1)=some v:=cz hbk;go_wp2_with (at_builtin;refine wpList_append_own _ rfl _ _ 89 rfl B 5 i0 (.int .u8 0) 1 1 Tryz.underlying89 hi hz0 hz1 hz2 rfl (by decide) _ _ _ rfl (hown.alloc _) (aa w1.heap.size 0) 1 1 [.int .u8 c] rfl rfl ?c1 ?c2 ?c3 ?c4 ?c5 ?_)
 case c1 =>
  intro j u hj
  match j,hj with
  | 0,hj=>simp at hj;subst hj;simp [Addr.add]
 case c2=>intro u hu;simp at hu;subst hu;rfl
 case c3=>unfold maxLen;omega
 case c4=>omega
 case c5=>have:=hb1.size;simp;omega
 intro v' w2 hown' hgrow _
 have hlt:b<w1.heap.size:=by
  rcases Nat.lt_or_ge b w1.heap.size with h'|h'
  ·exact h'
  ·simp [Array.getElem?_eq_none h'] at hbk
 have hb2:w2.heap[b]? = some (.cells #[.pointer (some (aa b 0)),v] 91 (0,0)):=by
  rw [hgrow.block b (by simp;omega) (fun e=>hne e.symm),Lib.alloc_old w1 _ b hlt];exact hbk
 have d0:w2.cell? (aa b 0)=some (.pointer (some (aa b 0))):=cz hb2;have d1:w2.cell? (aa b 1)=some v:=cz hb2;have f1:w2.frozen? (aa b 1)=false:=Lib.frozen_of_heap hb2 1
 obtain ⟨g,cap,rfl⟩:∃g cap,v'=sc (some (aa g 0)) (bs.length+1) cap:=by
  rcases hown'.2 with ⟨_,h0⟩|⟨g,cap,cur,hv,_⟩
  ·omega
  ·exact ⟨g,cap,hv⟩
 go_wp2
 go_ret;refine ⟨rfl,Or.inr ?_,?_⟩
 ·exact Lib.BuilderAt.put (T:=91) (e:=5) hB hb2 (bs':=bs++[.int .u8 c]) (by simpa using hown') (by decide)
 ·exact ((hb1.alloc (by have:=hb1.size;omega) _).grown hgrow (by have:=hb1.size;simp;omega) (fun k hk=>(hown.lt k hk).1)).setCell (p:=(aa b 1)) hB _
end
section
open Go.RowKit
theorem gN {l:List UInt8} {c:UInt8} {n:Nat} (h:xK l=some (c,n)):0<n/\n<=l.length:=by
 match l,h with
 | [],h=>simp [xK] at h
 | x::r,h =>
  simp only [xK] at h
  by_cases c1:xA (x.toNat:Int)=true
  ·rw [if_pos c1] at h;simp at h;obtain ⟨_,rfl⟩:=h;simp
  ·rw [if_neg c1] at h
   by_cases c2:x≠37
   ·rw [if_pos c2] at h;simp at h
   ·rw [if_neg c2] at h
    match r,h with
    | [],h=>simp at h
    | [a],h=>simp at h
    | a::b::t,h =>
     simp only at h
     split at h
     ·simp at h
     ·split at h
      ·simp at h
      ·simp at h;obtain ⟨_,rfl⟩:=h;simp
def yJ (l:List UInt8):Option (List UInt8) :=
 if l=[] then some [] else
  match _h:xK l with
  | none=>none
  | some (c,n)=>(yJ (l.drop n)).map (c :: ·)
 termination_by l.length
 decreasing_by have:=gN _h;rw [List.length_drop];omega
theorem sB:yJ []=some []:=by unfold yJ;simp
theorem jP {l:List UInt8} (h0:l≠[]) (h:xK l=none):yJ l=none:=by
 unfold yJ;rw [if_neg h0]
 split
 ·rfl
 ·rename_i h2;rw [h] at h2;simp at h2
theorem qH {l:List UInt8} {c:UInt8} {n:Nat} (h:xK l=some (c,n)):yJ l=(yJ (l.drop n)).map (c :: ·):=by
 have h0:l≠[]:=by rintro rfl;simp [xK] at h
 conv=>lhs;unfold yJ
 rw [if_neg h0]
 split
 ·rename_i h2;rw [h] at h2;simp at h2
 ·rename_i c2 n2 h2;rw [h] at h2;simp at h2;obtain ⟨rfl,rfl⟩:=h2;rfl
theorem pQ:∀(k:Nat) (l:List UInt8) (m:List UInt8),l.length<=k->yJ l=some m->m.length<=l.length
 | 0,l,m,hk,h=>by
  obtain rfl:l=[]:=List.length_eq_zero_iff.1 (by omega);rw [sB] at h;simp at h;subst h;simp
 | k+1,l,m,hk,h=>by
  by_cases h0:l=[]
  ·subst h0;rw [sB] at h;simp at h;subst h;simp
  ·cases hf:xK l with
   | none=>rw [jP h0 hf] at h;simp at h
   | some o =>
    obtain ⟨c,n⟩:=o;have hn:=gN hf;rw [qH hf] at h
    cases hr:yJ (l.drop n) with
    | none=>rw [hr] at h;simp at h
    | some m' =>
     rw [hr] at h;simp at h;subst h;have:=pQ k (l.drop n) m' (by rw [List.length_drop];omega) hr;rw [List.length_drop] at this;rw [List.length_cons];omega
def nX (o:Option (List UInt8)):Value:=match o with
 | some l=>.tuple #[.string ⟨l.toArray⟩,.int .i64 0]
 | none=>.tuple #[.string ⟨#[]⟩,.int .i64 4]
theorem nM (s:ByteArray) (n:Nat):(s.extract n s.size).data.toList=s.data.toList.drop n:=by
 obtain ⟨⟨l⟩⟩:=s;simp [ByteArray.size];exact List.take_of_length_le (by simp)
theorem gD (s:ByteArray) (w:World) (hp:zY w) (hs:s.size<=140737488355327) :
  Calls Tryz.prog 153 #[.string s] w fun e w'=>e=.returned (nX (yJ s.data.toList))/\Below w.heap.size w w':=by
 have HP:=hid hp;clear hp;go_enter Tryz.func153,Tryz.ntmps153;go_wp2_with fail
 go_loopg [0] s.size (fun g vs wr=>∃(t:ByteArray) (acc:List UInt8),vs=tq t/\t.size<=g/\acc.length+t.size<=s.size/\Below w.heap.size w wr/\Lib.IsBuilder 91 5 w.heap.size w.heap.size (Lib.byteCells acc) wr/\Hid (yJ s.data.toList=(yJ t.data.toList).map (acc ++ ·)))
 case atStart=>exact ⟨s,[],rfl,Nat.le_refl _,by simp,(Below.refl _ _).alloc (Nat.le_refl _) _,Lib.fresh_isBuilder _ _ _,by show _=_;simp⟩
 case round =>
  obtain ⟨t,acc,rfl,hg,hlen,hb,hbu,HR⟩:=hrel;have HB:=hid hbu;have HL:=hid hlen;clear hbu hlen
  by_cases h0:0<t.size
  ·have h0z:(0:Int)<(t.size:Int):=by omega
   have HPr:zY wr:=HP.out.on hb
   have hne:t.data.toList≠[]:=by
    intro e;have:t.data.toList.length=t.size:=by simp
    rw [e] at this;simp at this;omega
   cases hf:xK t.data.toList with
   | none =>
    have HF:=hid hf;have HN:Hid (yJ s.data.toList=none):=by show _=_;rw [HR.out,jP hne hf];rfl
    go_wp2_with (first|(go_at_call 183;refine (zCd _ _ HPr h0).mono ?_;rintro e w1 ⟨rfl,hb1⟩;rw [HF.out];simp only [mI]))
    go_ret2
    rw [HN.out];exact ⟨rfl,hb.trans (hb1.mono hb.size)⟩
   | some o =>
    obtain ⟨c,n⟩:=o;have HF:=hid hf;obtain ⟨hn0,hn1⟩:=gN hf;have hn2:n<=t.size:=by simpa using hn1
    have HN:Hid (yJ s.data.toList=(yJ (t.data.toList.drop n)).map ((acc++[c]) ++ ·)):=by
     show _=_;rw [HR.out,qH hf,Option.map_map];congr 1;funext x;simp
    have hz:¬ (n:Int)=0:=by omega
    have hz1:(0:Int)<=n:=by omega
    have hz2:(n:Int)<=(t.size:Int):=by omega
    clear hne hn1;go_wp2_with (first|(go_at_call 183;refine (zCd _ _ HPr h0).mono ?_;rintro e w1 ⟨rfl,hb1⟩;rw [HF.out];simp only [mI])|(go_at_call 171;refine (mS w.heap.size w.heap.size _ _ _ (zGk HB.out hb1) (by rw [Lib.byteCells_length];have:=HL.out;omega) (Nat.le_trans hb.size hb1.size)).mono ?_;rintro e w2 ⟨rfl,hbu2,hb2⟩));go_roundg (t.size-n)
    case measure=>omega
    refine ⟨t.extract n t.size,acc++[c],rfl,?_,?_,(hb.trans (hb1.mono hb.size)).trans hb2,?_,?_⟩
    ·simp
    ·have:=HL.out;simp;omega
    ·simpa [Lib.byteCells] using hbu2
    ·show _=_
     rw [nM];exact HN.out
  ·have h0z:¬ (0:Int)<(t.size:Int):=by omega
   have hnil:t.data.toList=[]:=by
    apply List.length_eq_zero_iff.1
    have:t.data.toList.length=t.size:=by simp
    omega
   have HN:Hid (yJ s.data.toList=some acc):=by show _=_;rw [HR.out,hnil,sB];simp
   clear hnil;go_wp2_with (go_at_call 49;refine (Tryz.Builder_String_any _ _ _ _ HB.out hb.size).mono ?_;rintro e w1 ⟨rfl,hb1⟩)
   go_ret2
   rw [HN.out];exact ⟨rfl,hb.trans hb1⟩
end
section
open Go.RowKit
theorem zCN (s:ByteArray) (w:World) (hs:s.size<=maxLen) :
  Calls Tryz.prog 109 #[.string s,.func (.func 152) #[] #[],.func (.func 110) #[] #[]] w fun e w'=>e=.returned (.bool (yU s.data.toList))/\w'=w:=by
 unfold maxLen at hs
 by_cases he:s.size=0
 ·have hb:=vX yW yL s he;have hlt:(s.size:Int)<1:=by omega
  have HB:Hid (xD yW yL s.data.toList=false):=hb;clear he hb;go_enter Tryz.func109,Tryz.ntmps109;go_wp2_with fail;go_ret;exact ⟨zA HB.out.symm,rfl⟩
 have hpos:0<s.size:=by omega
 have hnl:¬ (s.size:Int)<1:=by omega
 by_cases hl:32<s.size
 ·have hb:=tA yW yL s hl;have HB:Hid (xD yW yL s.data.toList=false):=hb;have hgt:(32:Int)<(s.size:Int):=by omega
  clear he hb;go_enter Tryz.func109,Tryz.ntmps109;go_wp2_with fail;go_ret;exact ⟨zA HB.out.symm,rfl⟩
 have hle:¬ (32:Int)<(s.size:Int):=by omega
 clear he
 cases hc:yW (s[0].toNat:Int) with
 | false =>
  have HB:Hid (xD yW yL s.data.toList=false):=vW yW yL s hpos hc;go_enter Tryz.func109,Tryz.ntmps109;go_wp2_with (go_at_call 152;refine (zCw _ _).mono ?_;rintro e w' ⟨rfl,rfl⟩);go_ret;exact ⟨zA HB.out.symm,rfl⟩
 | true =>
  have HT:Hid ((∀k,1<=k->(hk:k<s.size)->yL (s[k].toNat:Int)=true)->xD yW yL s.data.toList=true):=uU yW yL s hpos (by omega) hc;have HA:Hid (∀k,1<=k->(hk:k<s.size)->yL (s[k].toNat:Int)=false->xD yW yL s.data.toList=false):=fun k h1 hk=>qS yW yL s k h1 hk
  go_enter Tryz.func109,Tryz.ntmps109
  go_wp2_with (go_at_call 152;refine (zCw _ _).mono ?_;rintro e w' ⟨rfl,rfl⟩)
  go_loop [7] (fun i=>∃k:Nat,1<=k/\k<=s.size/\i=ii k/\(∀j,1<=j->j<k->(hj:j<s.size)->yL (s[j].toNat:Int)=true)) (fun i=>s.size-(intOf i).toNat)
  case atStart=>exact ⟨1,by omega,by omega,rfl,fun j h1 h2=>by omega⟩
  case round =>
   obtain ⟨k,hk1,hk,rfl,hall⟩:=hrel;have HL:Hid (∀j,1<=j->j<k->(hj:j<s.size)->yL (s[j].toNat:Int)=true):=hall;clear hall
   by_cases hlt:k<s.size
   ·cases hd:yL (s[k].toNat:Int) with
    | false =>
     go_wp2_with (go_at_call 110;refine (gV _ _).mono ?_;rintro e w' ⟨rfl,rfl⟩)
     go_ret;exact ⟨zA (HA.out k hk1 hlt hd).symm,rfl⟩
    | true =>
     go_wp2_with (go_at_call 110;refine (gV _ _).mono ?_;rintro e w' ⟨rfl,rfl⟩)
     go_round
     case rel =>
      refine ⟨k+1,by omega,by omega,by go_num,fun j h1 h2 hj=>?_⟩
      by_cases hjk:j=k
      ·subst hjk;exact hd
      ·exact HL.out j h1 (by omega) hj
     case measure=>simp [intOf];omega
   ·go_wp2_with fail
    go_ret;exact ⟨zA (HT.out fun j h1 hj=>HL.out j h1 (by omega) hj).symm,rfl⟩
theorem bH (s:ByteArray) (w:World) (hs:s.size<=maxLen) :
  Calls Tryz.prog 180 #[.string s] w fun e w'=>e=.returned (.bool (yU s.data.toList))/\w'=w:=by
 go_enter Tryz.func180,Tryz.ntmps180
 go_wp2_with (go_at_call 109;refine (zCN _ _ hs).mono ?_;rintro e w' ⟨rfl,rfl⟩)
 go_ret;exact ⟨rfl,rfl⟩
end
section
open Go.RowKit
abbrev Fld:=ByteArray × List ByteArray
structure Fx where
 name:ByteArray
 p:Option Addr
 cap:Nat
 txt:List ByteArray
 deriving Inhabited
def Fx.sl (x:Fx):Value:=.slice x.p x.txt.length x.cap
def Fx.fld (x:Fx):Fld:=(x.name,x.txt)
def yF (x:Fx):List Value:=[.string x.name,x.sl]
def Fx.val (x:Fx):Value:=.agg (yF x).toArray
def wJ (w:World) (p:Option Addr) (ts:List ByteArray):Prop :=
 ts=[]∨∃b off,p=some ⟨b,off,none⟩/\∀i,(h:i<ts.length)->w.cell? ⟨b,off+i,none⟩=some (.string ts[i])
def Fx.at (w:World) (x:Fx):Prop:=wJ w x.p x.txt
def kL (w:World) (b off:Nat) (d:List Fx):Prop :=
 ∀i,(h:i<d.length)->w.cell? ⟨b,off+i * 2,none⟩=some (.string d[i].name)/\w.cell? ⟨b,off+i * 2+1,none⟩=some d[i].sl
def qZ (w:World) (v:Value) (d:List Fx):Prop :=
 ∃p cap,v=.slice p d.length cap/\(d=[]∨∃b off,p=some ⟨b,off,none⟩/\kL w b off d)/\∀x∈d,x.at w
def zOB (ts:List ByteArray):Prop:=ts.length<=maxLen/\∀t∈ts,t.size<=maxLen
def zMx (f:Fld):Prop:=f.1.size<=maxLen/\zOB f.2
def sD (d:List Fx):Prop:=d.length<=maxLen/\∀x∈d,zMx x.fld
theorem zJ {w:World} {a:Addr} {v:Value} (h:w.cell? a=some v):a.block<w.heap.size:=by
 rcases Nat.lt_or_ge a.block w.z with h'|h'
 ·exact h'
 ·simp [World.cell?,Array.getElem?_eq_none h'] at h
theorem wJ.kept {w w':World} {p:Option Addr} {ts:List ByteArray} (h:wJ w p ts) (hb:Below w.heap.size w w'):wJ w' p ts:=by
 rcases h with h|⟨b,off,hp,h⟩
 ·exact Or.inl h
 ·exact Or.inr ⟨b,off,hp,fun i hi=>(hb.cell (p:=(aa b (off+i))) (zJ (h i hi))).trans (h i hi)⟩
theorem kL.kept {w w':World} {b off:Nat} {d:List Fx} (h:kL w b off d) (hb:Below w.heap.size w w'):kL w' b off d :=
 fun i hi=>⟨(hb.cell (p:=(aa b (off+i * 2))) (zJ (h i hi).1)).trans (h i hi).1,(hb.cell (p:=(aa b (off+i * 2+1))) (zJ (h i hi).2)).trans (h i hi).2⟩
theorem qZ.at_all {w:World} {v:Value} {d:List Fx} (h:qZ w v d):∀x∈d,x.at w:=by
 obtain ⟨_,_,_,_,h⟩:=h;exact h
theorem qZ.kept {w w':World} {v:Value} {d:List Fx} (h:qZ w v d) (hb:Below w.heap.size w w'):qZ w' v d:=by
 obtain ⟨p,cap,rfl,h,ht⟩:=h;refine ⟨p,cap,rfl,?_,fun x hx=>(ht x hx).kept hb⟩
 rcases h with h|⟨b,off,hp,h⟩
 ·exact Or.inl h
 ·exact Or.inr ⟨b,off,hp,h.kept hb⟩
def kF (t:ByteArray):Bool:=decide (128<t.size)
def tG (f:Fld):Bool:=yU f.1.data.toList && !f.2.isEmpty&&decide (f.2.length<=8) && !f.2.any kF
theorem cU (x:Fx) (w:World) (hs:x.name.size<=maxLen):Calls Tryz.prog 155 #[x.val] w fun e w'=>e=.returned (.bool (!yU x.name.data.toList))/\zK w w':=by
 obtain ⟨nm,p,cap,ts⟩:=x;simp only [Fx.val,yF,Fx.sl] at hs ⊢;go_enter Tryz.func155,Tryz.ntmps155;go_wp2_with (go_at_call 180;refine (bH _ _ hs).mono ?_;rintro e w' ⟨rfl,rfl⟩);go_ret;exact ⟨rfl,(zK.refl _).alloc _⟩
theorem zGE (x:Fx) (w:World):Calls Tryz.prog 157 #[x.val] w fun e w'=>e=.returned (.bool x.txt.isEmpty)/\zK w w':=by
 obtain ⟨nm,p,cap,ts⟩:=x;simp only [Fx.val,yF,Fx.sl]
 have HE:Hid (decide ((ts.length:Int)=0)=ts.isEmpty):=by
  show _=_
  cases ts<;>simp
  omega
 go_enter Tryz.func157,Tryz.ntmps157
 go_wp2_with fail
 go_ret;exact ⟨zA HE.out,(zK.refl _).alloc _⟩
theorem zEg (t:ByteArray) (w:World):Calls Tryz.prog 178 #[.string t] w fun e w'=>e=.returned (.bool (kF t))/\w'=w:=by
 have HE:Hid (decide ((128:Int)<t.size)=kF t):=by
  show _=_
  unfold kF;rw [Bool.eq_iff_iff];simp;omega
 go_enter Tryz.func178,Tryz.ntmps178
 go_wp2_with fail
 go_ret;exact ⟨zA HE.out,rfl⟩
end
section
open Go.RowKit
def zHM (R:Nat) (w:World) (v:Value) (l:List UInt8):Prop :=
 ∃p cap,v=.slice p l.length cap/\l.length<=cap/\cap<=maxLen/\(l=[]∨∃b off,p=some ⟨b,off,none⟩/\b<R/\∀i,(h:i<l.length)->w.cell? ⟨b,off+i,none⟩=some (.int .u8 l[i].toNat))
theorem addr_add (b off i:Nat):(⟨b,off,none⟩:Addr).add i=⟨b,off+i,none⟩:=by
 unfold Addr.add
 split
 ·rename_i h;simp_all
 ·rfl
theorem zZ (w:World) (R i:Nat) (v:Value):w.grownBy (w.setCell ⟨R,i,none⟩ v) (some R) :=
 ⟨rfl,rfl,rfl,by simp [World.setCell],fun k _ hne=>Below.heap_setCell w _ _ k (fun e=>hne (by rw [e]))⟩
theorem zAT {a b c:World} {R:Nat} (h:a.grownBy b (some R)) (k:b.grownBy c (some R)):a.grownBy c (some R) :=
 ⟨k.os.trans h.os,k.tape.trans h.tape,k.output.trans h.output,Nat.le_trans h.size k.size,fun i hi hn=>(k.block i (Nat.lt_of_lt_of_le hi h.size) hn).trans (h.block i hi hn)⟩
theorem zFD {R:Nat} {w:World} {u:Value} {l:List UInt8} (h:zHM R w u l):(convert 89 9 u).run Tryz.prog w=.ok (.string ⟨l.toArray⟩) w:=by
 obtain ⟨p,cap,rfl,_,_,h⟩:=h
 rcases h with rfl|⟨b,off,rfl,_,h⟩
 ·rw [run_convert_bytes_string w _ _ _ p _ cap Tryz.underlying89 Tryz.underlying5 Tryz.underlying9]
  cases p<;>simp [Conv.bytesToString,loadCells,loadCellsFrom,go_sem]<;>rfl
 ·exact run_convert_bytes_back w _ _ _ (aa b off) cap l Tryz.underlying89 Tryz.underlying5 Tryz.underlying9 (fun j hj=>by rw [addr_add];exact h j hj)
end
section
open Go.RowKit
theorem Tryz.infoStr:(Tryz.prog.info? 9).map (fun i=>(i.zero,i.size,i.bytes))=some (some (.string ⟨#[]⟩),1,16):=by kernel_rfl
def yV (n0:Nat) (w:World) (v:Value) (ts:List ByteArray):Prop:=w.ownsRow n0 9 1 v ts.length (ts.map Value.string)
theorem own_weak {w:World} {base base':Nat} {e:TypeId} {size:Nat} {v:Value} {n:Nat} {xs:List Value} (h:w.ownsRow base e size v n xs) (hb:base'<=base):w.ownsRow base' e size v n xs:=by
 refine ⟨h.1,?_⟩
 rcases h.2 with h2|⟨g,cap,cur,h3,h4,h5⟩
 ·exact .inl h2
 ·exact .inr ⟨g,cap,cur,h3,by omega,h5⟩
theorem yV.on {n0:Nat} {w w':World} {v:Value} {ts:List ByteArray} (h:yV n0 w v ts) (hb:Below w.heap.size w w'):yV n0 w' v ts:=own_on h hb
theorem yV.grown {n0:Nat} {w w':World} {v:Value} {ts:List ByteArray} {R:Nat} (h:yV n0 w v ts) (hg:w.grownBy w' (some R)) (hR:R<n0):yV n0 w' v ts:=by
 refine World.ownsRow.kept h hg ?_
 rcases hv:v.ownBlock with _|k
 ·exact Or.inl rfl
 ·right;intro e;have:=(World.ownsRow.lt h k hv).1;simp at e;omega
end
section
open Go.RowKit
theorem zBm:∀args w,(callFunc 178 args).run Tryz.prog w=.ok (.enter 178 args) w:=enters_of Tryz.func178 (by kernel_rfl) rfl
theorem zEa (p:Option Addr) (cap:Nat) (ts:List ByteArray) (w:World) (h:wJ w p ts) (hs:ts.length<=maxLen) :
  Calls Tryz.prog 177 #[.slice p ts.length cap,.func (.func 178) #[] #[]] w fun e w'=>e=.returned (.bool (ts.any kF))/\∃q,w'=w.drewN q:=by
 unfold maxLen at hs
 rcases h with rfl|⟨b,off,rfl,hc⟩
 ·refine (Tryz.slices_ContainsFunc_empty (α:=ByteArray) p cap _ w).mono ?_;rintro e w' ⟨rfl,rfl⟩;exact ⟨rfl,0,rfl⟩
 ·refine (Tryz.slices_ContainsFunc (fun t:ByteArray=>Value.string t) kF 178 #[] zBm b off ts.length cap ts w (fun W x hb=>(zEg x W).mono ?_) (Nat.le_refl _) (by omega) ?_).mono ?_
  ·rintro e w' ⟨rfl,rfl⟩;exact ⟨rfl,0,rfl⟩
  ·intro j hj;rw [getElem!_pos ts j hj];exact hc j hj
  ·rintro e w' ⟨rfl,hq⟩;rw [List.take_length];exact ⟨rfl,hq⟩
theorem zLv (x:Fx) (w:World) (hx:x.at w) (hf:zMx x.fld):Calls Tryz.prog 139 #[x.val] w fun e w'=>e=.returned (.bool (tG x.fld))/\zK w w':=by
 obtain ⟨hs,hl,_⟩:=hf;have HM:=hid (cU x);have HBA:=hid (zGE x);obtain ⟨nm,p,cap,ts⟩:=x;simp only [Fx.val,yF,Fx.sl,Fx.fld,Fx.at] at hs hl hx HM HBA ⊢;have hb1:zK w (w.alloc (.cells #[tq nm,sc p ts.length cap] 45)):=(zK.refl _).alloc _;have HX:=hid (hx.kept hb1.below);have HS:=hid hs;have HL:=hid hl;clear hx hs hl;obtain ⟨r,hr⟩:∃r,tG (nm,ts)=r:=⟨_,rfl⟩;rw [hr];have HR:=hid hr;clear hr
 have A0:∀w1,Below (w.alloc (.cells #[tq nm,sc p ts.length cap] 45)).heap.size (w.alloc (.cells #[tq nm,sc p ts.length cap] 45)) w1->w1.cell? (aa w.heap.size 0)=some (tq nm)/\w1.cell? (aa w.heap.size 1)=some (sc p ts.length cap):=fun w1 hb=>by
  refine ⟨(hb.cell (p:=(aa w.heap.size 0)) (by simp)).trans (by simp [go_sem]),(hb.cell (p:=(aa w.heap.size 1)) (by simp)).trans (by simp [go_sem])⟩
 have A1:=hid A0;clear A0
 cases h1:yU nm.data.toList with
 | false =>
  have H0:Hid (r=false):=by show r=false;rw [<-HR.out];simp [tG,h1]
  go_enter Tryz.func139,Tryz.ntmps139
  go_wp2_with (first|(go_at_call 155;refine (HM.out _ HS.out).mono ?_;rintro e w1 ⟨rfl,hb2⟩;simp only [h1]))
  go_ret;exact ⟨zA H0.out.symm,hb1.trans hb2⟩
 | true =>
  cases h2:ts.isEmpty with
  | true =>
   have H0:Hid (r=false):=by show r=false;rw [<-HR.out];simp [tG,h2]
   go_enter Tryz.func139,Tryz.ntmps139
   go_wp2_with (first|(go_at_call 155;refine (HM.out _ HS.out).mono ?_;rintro e w1 ⟨rfl,hb2⟩;obtain ⟨a0,a1⟩:=A1.out _ hb2.below;simp only [h1])|(go_at_call 157;refine (HBA.out _).mono ?_;rintro e w2 ⟨rfl,hb3⟩;simp only [h2]))
   go_ret;exact ⟨zA H0.out.symm,(hb1.trans hb2).trans hb3⟩
  | false =>
   by_cases h8:ts.length<=8
   ·have h8z:¬ (8:Int)<(ts.length:Int):=by omega
    have H0:Hid (r = !ts.any kF):=by show r=_;rw [<-HR.out];unfold tG;rw [h1,h2,decide_eq_true h8];rfl
    go_enter Tryz.func139,Tryz.ntmps139
    go_wp2_with (first|(go_at_call 155;refine (HM.out _ HS.out).mono ?_;rintro e w1 ⟨rfl,hb2⟩;obtain ⟨a0,a1⟩:=A1.out _ hb2.below;simp only [h1])|(go_at_call 157;refine (HBA.out _).mono ?_;rintro e w2 ⟨rfl,hb3⟩;obtain ⟨b0,b1⟩:=A1.out _ (hb2.trans hb3).below;simp only [h2])|(go_at_call 177;refine (zEa _ _ _ _ (HX.out.kept (hb2.trans hb3).below) HL.out).mono ?_;rintro e w3 ⟨rfl,q,rfl⟩))
    go_ret;exact ⟨zA H0.out.symm,((hb1.trans hb2).trans hb3).drewN _⟩
   ·have h8z:(8:Int)<(ts.length:Int):=by omega
    have H0:Hid (r=false):=by show r=_;rw [<-HR.out];unfold tG;rw [decide_eq_false h8];simp
    go_enter Tryz.func139,Tryz.ntmps139
    go_wp2_with (first|(go_at_call 155;refine (HM.out _ HS.out).mono ?_;rintro e w1 ⟨rfl,hb2⟩;obtain ⟨a0,a1⟩:=A1.out _ hb2.below;simp only [h1])|(go_at_call 157;refine (HBA.out _).mono ?_;rintro e w2 ⟨rfl,hb3⟩;obtain ⟨b0,b1⟩:=A1.out _ (hb2.trans hb3).below;simp only [h2]))
    go_ret;exact ⟨zA H0.out.symm,(hb1.trans hb2).trans hb3⟩
end
section
open Go.RowKit
def ltN (a b:ByteArray):Bool:=Op.bytesLess a.toList b.toList
def wW (fs:List Fld) (i:Nat):Bool:=tG (fs.getD i default)&&(decide (i=0)||ltN (fs.getD (i-1) default).1 (fs.getD i default).1)
def xU (fs:List Fld):Bool:=decide (fs.length<=16)&&(List.range fs.length).all (wW fs)
theorem zAh {d:List Fx} {i:Nat} (h:i<d.length):(d.map Fx.fld).getD i default=d[i].fld:=by
 rw [List.getD_eq_getElem?_getD,List.getElem?_map,List.getElem?_eq_getElem h];rfl
theorem zBG {fs:List Fld} (h:16<fs.length):xU fs=false:=by
 unfold xU;rw [decide_eq_false (by omega)];rfl
theorem nE {fs:List Fld} {i:Nat} (h:i<fs.length) (hs:wW fs i=false):xU fs=false:=by
 unfold xU
 have:(List.range fs.length).all (wW fs)=false:=by
  rw [Bool.eq_false_iff];intro ha;rw [List.all_eq_true] at ha;have:=ha i (List.mem_range.2 h);rw [hs] at this;cases this
 rw [this];simp
theorem zIF {fs:List Fld} (h:fs.length<=16) (hs:∀i,i<fs.length->wW fs i=true):xU fs=true:=by
 unfold xU
 have:(List.range fs.length).all (wW fs)=true:=by
  rw [List.all_eq_true];exact fun i hi=>hs i (List.mem_range.1 hi)
 rw [this,decide_eq_true h];rfl
theorem zHy (w:World) (x:Fx) (w':World) (hb:Below (w.alloc (.cells #[.string x.name,.slice x.p x.txt.length x.cap] 45)).heap.size (w.alloc (.cells #[.string x.name,.slice x.p x.txt.length x.cap] 45)) w') :
  w'.cell? ⟨w.heap.size,0,none⟩=some (.string x.name)/\w'.cell? ⟨w.heap.size,1,none⟩=some (.slice x.p x.txt.length x.cap) :=
 ⟨(hb.cell (p:=(aa w.z 0)) (by simp)).trans (by simp [go_sem]),(hb.cell (p:=(aa w.z 1)) (by simp)).trans (by simp [go_sem])⟩
theorem zAf (v:Value) (d:List Fx) (w:World) (hv:qZ w v d) (hf:sD d):Calls Tryz.prog 98 #[v] w fun e w'=>e=.returned (.bool (xU (d.map Fx.fld)))/\zK w w':=by
 obtain ⟨p,cap,rfl,hd,ht⟩:=hv;have HT:=hid ht;have HF:=hid hf.2;have hl:=hf.1;unfold maxLen at hl;have HD:=hid hd;clear ht hf hd;obtain ⟨r,hr⟩:∃r,xU (d.map Fx.fld)=r:=⟨_,rfl⟩;rw [hr];have HR:=hid hr;clear hr
 by_cases h16:16<d.length
 ·have h16z:(16:Int)<d.length:=by omega
  have H0:Hid (r=false):=HR.out.symm.trans (zBG (by rw [List.length_map];exact h16));go_enter Tryz.func98,Tryz.ntmps98;go_wp2_with fail;go_ret;exact ⟨zA H0.out.symm,zK.refl _⟩
 have h16z:¬ (16:Int)<d.length:=by omega
 go_enter Tryz.func98,Tryz.ntmps98
 go_wp2_with fail
 go_loopg [10] d.length (fun g vi wr=>∃i:Nat,vi=ii i/\i<=d.length/\d.length-i<=g/\zK w wr/\Hid (∀j,j<i->wW (d.map Fx.fld) j=true))
 case atStart=>exact ⟨0,rfl,by omega,by omega,zK.refl _,fun j h=>by omega⟩
 case round =>
  obtain ⟨i,rfl,hi,hg,hb,HJ⟩:=hrel
  by_cases hlt:i<d.length
  ·have hltz:(i:Int)<(d.length:Int):=by omega
   have hiz:(0:Int)<=i:=by omega
   obtain ⟨b,off,rfl,hxs⟩:∃b off,p=some (aa b off)/\kL w b off d:=by
    rcases HD.out with h|h
    ·subst h;simp at hlt
    ·exact h
   have hxr:=hxs.kept hb.below;obtain ⟨c0,c1⟩:=hxr i hlt;have hxi:(d[i]).at wr:=(HT.out _ (List.getElem_mem hlt)).kept hb.below;have hfi:=HF.out _ (List.getElem_mem hlt);have hsx:=zAh hlt;obtain ⟨x,hx⟩:∃x,d[i]=x:=⟨_,rfl⟩;rw [hx] at c0 c1 hxi hfi hsx;have HXR:=hid hxr;have HXI:=hid hxi;have HFI:=hid hfi;have HSX:=hid hsx;clear hxr hxs hxi hfi hx hsx;unfold Fx.sl at c1;have FFX:Hid (∀W,x.at W->Calls Tryz.prog 139 #[.agg #[tq x.name,sc x.p x.txt.length x.cap]] W fun e w'=>e=.returned (.bool (tG x.fld))/\∃q os',w'=Sort.grow (W.drewN q) os'):=fun W h=>zLv x W h HFI.out
   have mixed:=Tryz.mixed
   by_cases h0:i=0
   ·have h0z:¬ (0:Int)<(i:Int):=by omega
    have H00:=hid h0;clear h0;go_wp2_with fail;obtain ⟨W1,hW1⟩:∃W1,wr.alloc (.cells #[tq x.name,sc x.p x.txt.length x.cap] 45)=W1:=⟨_,rfl⟩
    have full:∀n os,(Sort.grow (W1.drewN n) os).cell? (aa wr.heap.size 0)=some (tq x.name)/\(Sort.grow (W1.drewN n) os).cell? (aa wr.heap.size 1)=some (sc x.p x.txt.length x.cap)/\x.at (Sort.grow (W1.drewN n) os):=fun n os=>by
     subst hW1;have hgr:=(zK.refl (wr.alloc (.cells #[tq x.name,sc x.p x.txt.length x.cap] 45))).on (q:=n) (os:=os);obtain ⟨f0,f1⟩:=zHy wr x _ hgr.below;have hbw:=(((zK.refl wr).alloc (.cells #[tq x.name,sc x.p x.txt.length x.cap] 45)).trans hgr).below;exact ⟨f0,f1,HXI.out.kept hbw⟩
    have q0:∀n os,(Sort.grow (W1.drewN n) os).cell? (aa wr.heap.size 0)=some (tq x.name):=fun n os=>(full n os).1
    have q1:∀n os,(Sort.grow (W1.drewN n) os).cell? (aa wr.heap.size 1)=some (sc x.p x.txt.length x.cap):=fun n os=>(full n os).2.1
    have Q3:Hid (∀n os,x.at (Sort.grow (W1.drewN n) os)):=fun n os=>(full n os).2.2
    have hbW:zK w W1:=by subst hW1;exact hb.alloc _
    rw [hW1];clear full hW1 c0 c1
    cases hfx:tG x.fld with
    | false =>
     rw [hfx] at FFX;have H0:Hid (r=false):=HR.out.symm.trans (nE (i:=i) (by rw [List.length_map];exact hlt) (by unfold wW;rw [HSX.out,hfx];rfl));refine wp_region_quiet_grown mixed (by kernel_rfl) ?_
     repeat (go_big_quiet_step (first|(go_at_call 139;refine Calls.grown_of (FFX.out _ (Q3.out _ _)))))
     refine wpQuiet_nil ?_;intro _ hw';obtain ⟨⟨nq,osq⟩,hw''⟩:=hw';subst hw'';go_wp2_with fail;go_ret;exact ⟨zA H0.out.symm,hbW.on⟩
    | true =>
     rw [hfx] at FFX;have cb:decide (0<i)=false:=decide_eq_false (by have:=H00.out;omega);have H0:Hid (wW (d.map Fx.fld) i=true):=by show _=_;unfold wW;rw [HSX.out,hfx,decide_eq_true H00.out];rfl
     refine wp_region_quiet_grown mixed (by kernel_rfl) ?_
     repeat (go_big_quiet_step (first|(go_at_call 139;refine Calls.grown_of (FFX.out _ (Q3.out _ _)))))
     refine wpQuiet_nil ?_;intro _ hw';obtain ⟨⟨nq,osq⟩,hw''⟩:=hw';subst hw'';go_wp2_with fail;go_roundg (d.length-(i+1))
     case measure=>omega
     refine ⟨i+1,by go_num,by omega,by omega,hbW.on,fun j hj=>?_⟩;obtain rfl:j=i:=by have:=H00.out;omega
     exact H0.out
   ·obtain ⟨k,rfl⟩:∃k,i=k+1:=⟨i-1,by omega⟩;obtain ⟨e0,e1⟩:=HXR.out k (by omega);have hsy:=zAh (d:=d) (i:=k) (by omega);obtain ⟨y,hy⟩:∃y,d[k]=y:=⟨_,rfl⟩;rw [hy] at e0 hsy;have HSY:=hid hsy;clear e1 hy hsy;have k1:(0:Int)<(k:Int)+1:=by omega
    have k2:(0:Int)<=(k:Int):=by omega
    have k3:(k:Int)<(d.length:Int):=by omega
    go_wp2_with fail
    obtain ⟨W1,hW1⟩:∃W1,wr.alloc (.cells #[tq x.name,sc x.p x.txt.length x.cap] 45)=W1:=⟨_,rfl⟩
    have full:∀n os,(Sort.grow (W1.drewN n) os).cell? (aa wr.heap.size 0)=some (tq x.name)/\(Sort.grow (W1.drewN n) os).cell? (aa wr.heap.size 1)=some (sc x.p x.txt.length x.cap)/\(Sort.grow (W1.drewN n) os).cell? (aa b (off+k * 2))=some (tq y.name)/\x.at (Sort.grow (W1.drewN n) os):=fun n os=>by
     subst hW1;have hgr:=(zK.refl (wr.alloc (.cells #[tq x.name,sc x.p x.txt.length x.cap] 45))).on (q:=n) (os:=os);obtain ⟨f0,f1⟩:=zHy wr x _ hgr.below;have hbw:=(((zK.refl wr).alloc (.cells #[tq x.name,sc x.p x.txt.length x.cap] 45)).trans hgr).below;exact ⟨f0,f1,(hbw.cell (p:=(aa b (off+k * 2))) (zJ e0)).trans e0,HXI.out.kept hbw⟩
    have q0:∀n os,(Sort.grow (W1.drewN n) os).cell? (aa wr.heap.size 0)=some (tq x.name):=fun n os=>(full n os).1
    have q1:∀n os,(Sort.grow (W1.drewN n) os).cell? (aa wr.heap.size 1)=some (sc x.p x.txt.length x.cap):=fun n os=>(full n os).2.1
    have q2:∀n os,(Sort.grow (W1.drewN n) os).cell? (aa b (off+k * 2))=some (tq y.name):=fun n os=>(full n os).2.2.1
    have Q3:Hid (∀n os,x.at (Sort.grow (W1.drewN n) os)):=fun n os=>(full n os).2.2.2
    have hbW:zK w W1:=by subst hW1;exact hb.alloc _
    rw [hW1];clear full hW1 c0 c1 e0
    cases hfx:tG x.fld with
    | false =>
     rw [hfx] at FFX;have H0:Hid (r=false):=HR.out.symm.trans (nE (i:=k+1) (by rw [List.length_map];exact hlt) (by unfold wW;rw [HSX.out,hfx];rfl));refine wp_region_quiet_grown mixed (by kernel_rfl) ?_
     repeat (go_big_quiet_step (first|(go_at_call 139;refine Calls.grown_of (FFX.out _ (Q3.out _ _)))))
     refine wpQuiet_nil ?_;intro _ hw';obtain ⟨⟨nq,osq⟩,hw''⟩:=hw';subst hw'';go_wp2_with fail;go_ret;exact ⟨zA H0.out.symm,hbW.on⟩
    | true =>
     rw [hfx] at FFX
     have H0:Hid (wW (d.map Fx.fld) (k+1)=ltN y.name x.name):=by
      show _=_
      unfold wW;rw [HSX.out,hfx,Nat.add_sub_cancel,HSY.out,decide_eq_false (by omega)];rfl
     cases hlt2:Op.bytesLess y.name.toList x.name.toList with
     | false =>
      have H1:Hid (r=false):=HR.out.symm.trans (nE (i:=k+1) (by rw [List.length_map];exact hlt) (H0.out.trans hlt2));refine wp_region_quiet_grown mixed (by kernel_rfl) ?_
      repeat (go_big_quiet_step (first|(go_at_call 139;refine Calls.grown_of (FFX.out _ (Q3.out _ _)))))
      refine wpQuiet_nil ?_;intro _ hw';obtain ⟨⟨nq,osq⟩,hw''⟩:=hw';subst hw'';go_wp2_with fail;go_ret;exact ⟨zA H1.out.symm,hbW.on⟩
     | true =>
      have H1:Hid (wW (d.map Fx.fld) (k+1)=true):=H0.out.trans hlt2;refine wp_region_quiet_grown mixed (by kernel_rfl) ?_
      repeat (go_big_quiet_step (first|(go_at_call 139;refine Calls.grown_of (FFX.out _ (Q3.out _ _)))))
      refine wpQuiet_nil ?_;intro _ hw';obtain ⟨⟨nq,osq⟩,hw''⟩:=hw';subst hw'';go_wp2_with fail;go_roundg (d.length-(k+1+1))
      case measure=>omega
      refine ⟨k+1+1,by go_num,by omega,by omega,hbW.on,fun j hj=>?_⟩
      by_cases e:j=k+1
      ·subst e;exact H1.out
      ·exact HJ.out j (by omega)
  ·have hltz:¬ (i:Int)<(d.length:Int):=by omega
   have H0:Hid (r=true):=HR.out.symm.trans (zIF (by rw [List.length_map];omega) (fun j hj=>HJ.out j (by rw [List.length_map] at hj;omega)));go_wp2_with fail;go_ret;exact ⟨zA H0.out.symm,hb⟩
end
section
open Go.RowKit
theorem Tryz.infoFld:(Tryz.prog.info? 45).map (fun i=>(i.zero,i.size,i.bytes))=some (some (.agg #[.string ⟨#[]⟩,.slice none 0 0]),2,40):=by kernel_rfl
def yN (d:List Fx):List Value:=d.flatMap yF
theorem mE (d e:List Fx):yN (d++e)=yN d++yN e:=List.flatMap_append
theorem nO (d:List Fx):(yN d).length=d.length * 2:=by
 induction d with
 | nil=>rfl
 | cons x d ih=>simp [yN,yF] at ih ⊢;omega
theorem qE (d:List Fx) (i:Nat) (h:i<d.length):(yN d)[i * 2]? = some (.string d[i].name)/\(yN d)[i * 2+1]? = some d[i].sl:=by
 induction d generalizing i with
 | nil=>simp at h
 | cons x d ih =>
  have e:yN (x::d)=tq x.name::x.sl::yN d:=rfl;rw [e]
  cases i with
  | zero=>simp
  | succ i =>
   have:=ih i (by simpa using h);rw [show (i+1) * 2=i * 2+1+1 by omega]
   simpa using this
def vQ (n0:Nat) (w:World) (v:Value) (d:List Fx):Prop:=w.ownsRow n0 45 2 v d.length (yN d)/\∀x∈d,yV n0 w x.sl x.txt
theorem yV.txtAt {n0:Nat} {w:World} {p:Option Addr} {cap:Nat} {ts:List ByteArray} (h:yV n0 w (.slice p ts.length cap) ts):wJ w p ts:=by
 rcases h.2 with ⟨_,h0⟩|⟨g,c,cur,hv,_,hg,_,_,hsz,htk⟩
 ·exact Or.inl (List.length_eq_zero_iff.1 h0)
 ·right;injection hv with hp
  refine ⟨g,0,hp,fun i hi=>?_⟩;rw [Nat.zero_add,cell_of_row w g i cur _ _ hg]
  have:(ts.map Value.string)[i]? = cur.toList[i]?:=by
   rw [<-htk,List.getElem?_take,if_pos (by omega)]
  rw [<-Array.getElem?_toList,<-this];simp [hi]
theorem vQ.is {n0:Nat} {w:World} {v:Value} {d:List Fx} (h:vQ n0 w v d):qZ w v d:=by
 obtain ⟨h1,h2⟩:=h
 rcases h1.2 with ⟨rfl,h0⟩|⟨g,c,cur,rfl,_,hg,_,_,hsz,htk⟩
 ·obtain rfl:=List.length_eq_zero_iff.1 h0;exact ⟨none,0,rfl,Or.inl rfl,fun x hx=>by simp at hx⟩
 ·refine ⟨_,c,rfl,Or.inr ⟨g,0,rfl,fun i hi=>?_⟩,fun x hx=>yV.txtAt (h2 x hx)⟩;obtain ⟨c0,c1⟩:=qE d i hi
  have e:∀j,j<d.length * 2->(yN d)[j]? = cur[j]?:=fun j hj=>by
   rw [<-htk,List.getElem?_take,if_pos hj,Array.getElem?_toList]
  rw [Nat.zero_add,cell_of_row w g _ cur _ _ hg,cell_of_row w g _ cur _ _ hg,<-e _ (by omega),<-e _ (by omega)];exact ⟨c0,c1⟩
theorem vQ.on {n0:Nat} {w w':World} {v:Value} {d:List Fx} (h:vQ n0 w v d) (hb:Below w.heap.size w w'):vQ n0 w' v d:=⟨own_on h.1 hb,fun x hx=>(h.2 x hx).on hb⟩
theorem vQ.far {n0 R:Nat} {w w':World} {v:Value} {d:List Fx} (h:vQ n0 w v d) (hg:w.grownBy w' (some R)) (hR:R<n0):vQ n0 w' v d:=by
 refine ⟨World.ownsRow.kept h.1 hg ?_,fun x hx=>(h.2 x hx).grown hg hR⟩
 rcases hv:v.ownBlock with _|k
 ·exact Or.inl rfl
 ·right;intro e;have:=(World.ownsRow.lt h.1 k hv).1;simp at e;omega
theorem yV.rowX {n0:Nat} {w w':World} {sv v:Value} {ts:List ByteArray} {n m:Nat} {xs:List Value} {m0:Nat} (h:yV n0 w sv ts) (hv:w.ownsRow m0 45 n v m xs) (hg:w.grownBy w' v.ownBlock):yV n0 w' sv ts:=by
 refine World.ownsRow.kept h hg ?_
 rcases h.2 with ⟨rfl,_⟩|⟨g,c,cur,rfl,_,hgb,_⟩
 ·exact Or.inl rfl
 ·right;intro e
  rcases hv.2 with ⟨rfl,_⟩|⟨g',c',cur',rfl,_,hgb',_⟩
  ·cases e
  ·have:g=g':=by simpa [Value.ownBlock] using e
   subst this;rw [hgb] at hgb';injection hgb' with hgb'
   injection hgb' with _ ht
   exact absurd ht (by decide)
theorem tF {n0:Nat} {w:World} {sv:Value} {ts:List ByteArray} (h:yV n0 w sv ts):∃p cap,sv=.slice p ts.length cap:=by
 rcases h.2 with ⟨hv,h0⟩|⟨g,cap,cur,hv,_⟩
 ·exact ⟨none,0,by rw [hv,h0]⟩
 ·exact ⟨_,_,hv⟩
theorem zBe (w:World) (x:Fx):∀j u,(yN [x])[j]? = some u->(w.alloc (.cells #[.string x.name,.slice x.p x.txt.length x.cap] 45)).cell? ((⟨w.heap.size,0,none⟩:Addr).add j)=some u:=by
 intro j u hj;have e:yN [x]=[tq x.name,sc x.p x.txt.length x.cap]:=rfl;rw [e] at hj
 match j,hj with
 | 0,hj=>simp at hj;subst hj;simp [Addr.add]
 | 1,hj=>simp at hj;subst hj;rw [addr_add];simp
theorem tS (d:List Fx):∀u∈yN d,u.oneCell'=true:=by
 intro u hu;obtain ⟨x,_,hx⟩:=List.mem_flatMap.1 hu;simp [yF] at hx
 rcases hx with rfl|rfl<;>rfl
theorem vQ.put {n0:Nat} {w w':World} {v v':Value} {d:List Fx} {x:Fx} (h:vQ n0 w v d) (hx:yV n0 w x.sl x.txt) (hown:w'.ownsRow n0 45 2 v' (d.length+1) (yN d++yN [x])) (hg:w.grownBy w' v.ownBlock):vQ n0 w' v' (d++[x]):=by
 refine ⟨?_,fun y hy=>?_⟩
 ·rw [mE,List.length_append];exact hown
 ·rw [List.mem_append,List.mem_singleton] at hy
  rcases hy with hy|rfl
  ·exact (h.2 y hy).rowX h.1 hg
  ·exact hx.rowX h.1 hg
end
section
open Go.RowKit
def vM (l:List UInt8):Option (List UInt8 × List UInt8) :=
 if Lib.indexByte l 61=-1 then none else (yJ (l.drop ((Lib.indexByte l 61).toNat+1))).map fun t=>(l.take (Lib.indexByte l 61).toNat,t)
def zKR (w : World) (l : List UInt8) (e : Ending) (w' : World) : Prop :=
  ((vM l = none /\ e = .returned (.tuple #[.agg #[.string ⟨#[]⟩, .slice none 0 0], .int .i64 4])) ∨
   ∃ n t, vM l = some (n, t) /\ ∃ p, e = .returned (.tuple #[.agg #[.string ⟨n.toArray⟩, .slice p 1 1], .int .i64 0]) /\ yV w.heap.size w' (.slice p 1 1) [⟨t.toArray⟩]) /\ Below w.heap.size w w'
theorem jC (s:ByteArray) (i:Nat):s.extract 0 i=⟨(s.data.toList.take i).toArray⟩:=by
 obtain ⟨⟨l⟩⟩:=s;simp [ByteArray.extract,ByteArray.copySlice]
theorem zAH {w:World} {B:Nat} {u v:Value} {T:TypeId} (h:w.heap[B]? = some (.cells #[u,v] T (0,0))) :
  w.cell? ⟨B,0,none⟩=some u/\w.cell? ⟨B,1,none⟩=some v/\w.frozen? ⟨B,0,none⟩=false/\w.frozen? ⟨B,1,none⟩=false :=
 ⟨by rw [Lib.cell_of_heap h];rfl,by rw [Lib.cell_of_heap h];rfl,Lib.frozen_of_heap h 0,Lib.frozen_of_heap h 1⟩
theorem zKb (s:ByteArray) (w:World) (hp:zY w) (hs:s.size<=140737488355327) :
  Calls Tryz.prog 114 #[.string s] w fun e w'=>zKR w s.data.toList e w':=by
 have hb0:Below w.heap.size w (w.alloc (.cells #[tq ⟨#[]⟩,sc none 0 0] 45)):=(Below.refl _ _).alloc (Nat.le_refl _) _;have HP:=hid (hp.on hb0);have HB0:=hid hb0;clear hp hb0
 rcases vL s.data.toList 61 with ⟨hix,_⟩|⟨i,hix,hil,_,_⟩
 ·have HX:=hid hix;have HO:Hid (vM s.data.toList=none):=by show _=_;unfold vM;rw [if_pos hix]
  clear hix;go_enter Tryz.func114,Tryz.ntmps114;go_wp2_with (first|(go_at_call 111;refine (zLK _ _ _ HX.out).mono ?_;rintro e w1 ⟨rfl,rfl⟩)|(go_at_call 153;refine (gD _ _ HP.out (by decide)).mono ?_;rintro e w2 ⟨rfl,hb2⟩;rw [show (⟨#[]⟩:ByteArray).data.toList=[] from rfl,sB];simp only [nX];obtain ⟨k0,k1,k2,k3⟩:=zAH ((hb2.block w.heap.size (by simp)).trans (heap_alloc_new w _))));have hbw:Below w.heap.size w ((w2.setCell (aa w.heap.size 0) (tq ⟨#[]⟩)).setCell (aa w.heap.size 1) (sc none 0 0)):=((HB0.out.trans (hb2.mono (by simp))).setCell (p:=(aa w.heap.size 0)) (Nat.le_refl _) _).setCell (p:=(aa w.heap.size 1)) (Nat.le_refl _) _;have j0:((w2.setCell (aa w.heap.size 0) (tq ⟨#[]⟩)).setCell (aa w.heap.size 1) (sc none 0 0)).cell? (aa w.heap.size 0)=some (tq ⟨#[]⟩):=by simp [go_sem,k0]
  have j1:((w2.setCell (aa w.heap.size 0) (tq ⟨#[]⟩)).setCell (aa w.heap.size 1) (sc none 0 0)).cell? (aa w.heap.size 1)=some (sc none 0 0):=by simp [go_sem,k1]
  exact bodyPost_ret (v:=.tuple #[.agg #[tq ⟨#[]⟩,sc none 0 0],ii 4]) (by simp [results,Tryz.results114,go_sem,j0,j1]) rfl ⟨Or.inl ⟨HO.out,rfl⟩,hbw⟩
 ·have HX:=hid hix;have hil':i<s.size:=by simpa using hil
  have hrs:(s.extract (i+1) s.size).size<=140737488355327:=by simp;omega
  cases hrd:yJ (s.data.toList.drop (i+1)) with
  | none =>
   have HO:Hid (vM s.data.toList=none):=by
    show _=_;unfold vM;rw [if_neg (by rw [hix];omega),hix,Int.toNat_natCast,hrd];rfl
   have HR:=hid hrd;clear hix;go_enter Tryz.func114,Tryz.ntmps114;go_wp2_with (first|(go_at_call 111;refine (zAc _ _ _ i HX.out hil' (by unfold maxLen;omega)).mono ?_;rintro e w1 ⟨rfl,n,rfl⟩)|(go_at_call 153;refine (gD _ _ (HP.out.on (zP (Below.refl _ _) n)) hrs).mono ?_;rintro e w2 ⟨rfl,hb2⟩;rw [nM,HR.out];simp only [nX];obtain ⟨k0,k1,k2,k3⟩:=zAH ((hb2.block w.heap.size (by simp)).trans (heap_alloc_new w _))));have hbw:Below w.heap.size w ((w2.setCell (aa w.heap.size 0) (tq ⟨#[]⟩)).setCell (aa w.heap.size 1) (sc none 0 0)):=(((zP HB0.out n).trans (hb2.mono (by simp))).setCell (p:=(aa w.heap.size 0)) (Nat.le_refl _) _).setCell (p:=(aa w.heap.size 1)) (Nat.le_refl _) _;have j0:((w2.setCell (aa w.heap.size 0) (tq ⟨#[]⟩)).setCell (aa w.heap.size 1) (sc none 0 0)).cell? (aa w.heap.size 0)=some (tq ⟨#[]⟩):=by simp [go_sem,k0]
   have j1:((w2.setCell (aa w.heap.size 0) (tq ⟨#[]⟩)).setCell (aa w.heap.size 1) (sc none 0 0)).cell? (aa w.heap.size 1)=some (sc none 0 0):=by simp [go_sem,k1]
   exact bodyPost_ret (v:=.tuple #[.agg #[tq ⟨#[]⟩,sc none 0 0],ii 4]) (by simp [results,Tryz.results114,go_sem,j0,j1]) rfl ⟨Or.inl ⟨HO.out,rfl⟩,hbw⟩
  | some t =>
   have HO:Hid (vM s.data.toList=some (s.data.toList.take i,t)):=by
    show _=_;unfold vM;rw [if_neg (by rw [hix];omega),hix,Int.toNat_natCast,hrd];rfl
   have HR:=hid hrd;have HE:=hid (jC s i);clear hix;go_enter Tryz.func114,Tryz.ntmps114;go_wp2_with (first|(go_at_call 111;refine (zAc _ _ _ i HX.out hil' (by unfold maxLen;omega)).mono ?_;rintro e w1 ⟨rfl,n,rfl⟩)|(go_at_call 153;refine (gD _ _ (HP.out.on (zP (Below.refl _ _) n)) hrs).mono ?_;rintro e w2 ⟨rfl,hb2⟩;rw [nM,HR.out];simp only [nX];have hbx2:=(hb2.block w.heap.size (by simp)).trans (heap_alloc_new w _);obtain ⟨k0,k1,k2,k3⟩:=zAH ((Below.heap_alloc w2 (.cells #[tq ⟨t.toArray⟩] 9) w.heap.size (by have:=hb2.size;simp at this;omega)).trans hbx2)));have hw2:w.heap.size<w2.heap.size:=by have:=hb2.size;simp at this;omega
   obtain ⟨W3,hW3⟩:∃W3,w2.alloc (.cells #[tq ⟨t.toArray⟩] 9)=W3:=⟨_,rfl⟩
   have hot:yV w2.heap.size W3 (sc (some (aa w2.heap.size 0)) 1 1) [⟨t.toArray⟩]:=by
    rw [<-hW3];exact World.ownsRow_lit w2 #[tq ⟨t.toArray⟩] 1 (Nat.le_refl _) (by decide) rfl
   have hb3:Below w.heap.size w W3:=by
    rw [<-hW3];exact ((zP HB0.out n).trans (hb2.mono (by simp))).alloc (by omega) _
   rw [hW3] at k0 k1 k2 k3 ⊢;have hbw:Below w.heap.size w ((W3.setCell (aa w.heap.size 0) (tq (s.extract 0 i))).setCell (aa w.heap.size 1) (sc (some (aa w2.heap.size 0)) 1 1)):=(hb3.setCell (p:=(aa w.heap.size 0)) (Nat.le_refl _) _).setCell (p:=(aa w.heap.size 1)) (Nat.le_refl _) _;have hgB:W3.grownBy ((W3.setCell (aa w.heap.size 0) (tq (s.extract 0 i))).setCell (aa w.heap.size 1) (sc (some (aa w2.heap.size 0)) 1 1)) (some w.heap.size):=zAT (zZ W3 _ 0 _) (zZ _ _ 1 _);have hot2:yV w.heap.size ((W3.setCell (aa w.heap.size 0) (tq (s.extract 0 i))).setCell (aa w.heap.size 1) (sc (some (aa w2.heap.size 0)) 1 1)) (sc (some (aa w2.heap.size 0)) 1 1) [⟨t.toArray⟩]:=own_weak (yV.grown hot hgB hw2) (by omega);have j0:((W3.setCell (aa w.heap.size 0) (tq (s.extract 0 i))).setCell (aa w.heap.size 1) (sc (some (aa w2.heap.size 0)) 1 1)).cell? (aa w.heap.size 0)=some (tq (s.extract 0 i)):=by simp [go_sem,k0]
   have j1:((W3.setCell (aa w.heap.size 0) (tq (s.extract 0 i))).setCell (aa w.heap.size 1) (sc (some (aa w2.heap.size 0)) 1 1)).cell? (aa w.heap.size 1)=some (sc (some (aa w2.heap.size 0)) 1 1):=by simp [go_sem,k1]
   exact bodyPost_ret (v:=.tuple #[.agg #[tq (s.extract 0 i),sc (some (aa w2.heap.size 0)) 1 1],ii 0]) (by simp [results,Tryz.results114,go_sem,j0,j1]) rfl ⟨Or.inr ⟨_,t,HO.out,_,by rw [HE.out],hot2⟩,hbw⟩
end
section
open Go.Sort
set_option linter.unusedSectionVars false
variable {α:Type} [Inhabited α] {κ:Type} [DecidableEq κ]
def nB (K:α->κ) (d d':Array α):Prop:=∀c,d'.toList.filter (fun x=>decide (K x=c))=d.toList.filter (fun x=>decide (K x=c))
theorem nB.refl (K:α->κ) (d:Array α):nB K d d:=fun _=>rfl
theorem nB.trans {K:α->κ} {d d' d'':Array α} (h:nB K d d') (h':nB K d' d''):nB K d d'':=fun c=>(h' c).trans (h c)
def Rot (s m e:Nat) (d d':Array α):Prop :=
 d'.size=d.size/\(∀t,t<e-m->d'[s+t]! = d[m+t]!)/\(∀t,t<m-s->d'[s+(e-m)+t]! = d[s+t]!)/\(∀i,i<s∨e<=i->d'[i]! = d[i]!)
theorem cM (d:Array α):d.toList=(List.range' 0 d.size).map (fun i=>d[i]!):=by
 have h:=extract_toList d 0 d.size (Nat.le_refl _);rw [Array.extract_size,Nat.sub_zero] at h;exact h
theorem uX (s k l:Nat):List.range' s (k+l)=List.range' s k++List.range' (s+k) l:=by
 rw [<-List.range'_append_1]
theorem wU (f g:Nat->α) (s s' n:Nat) (h:∀t,t<n->f (s+t)=g (s'+t)):(List.range' s n).map f=(List.range' s' n).map g:=by
 apply List.ext_getElem
 ·simp
 ·intro i h1 h2;simp only [List.length_map,List.length_range'] at h1;simp only [List.getElem_map,List.getElem_range',Nat.one_mul];exact h i h1
theorem Rot.parts {s m e:Nat} {d d':Array α} (h:Rot s m e d d') (hsm:s<=m) (hme:m<=e) (he:e<=d.size) :
  ∃A L R B:List α,d.toList=A++L++R++B/\d'.toList=A++R++L++B/\L=(List.range' s (m-s)).map (fun i=>d[i]!)/\R=(List.range' m (e-m)).map (fun i=>d[i]!):=by
 obtain ⟨hz,h1,h2,h3⟩:=h;refine ⟨(List.range' 0 s).map (fun i=>d[i]!),_,_,(List.range' e (d.size-e)).map (fun i=>d[i]!),?_,?_,rfl,rfl⟩
 ·rw [cM];have e1:d.size=s+(m-s)+(e-m)+(d.size-e):=by omega
  conv=>lhs;rw [e1]
  rw [uX,uX,uX];simp only [List.map_append];rw [show 0+s=s by omega,show 0+(s+(m-s))=m by omega,show 0+(s+(m-s)+(e-m))=e by omega]
 ·rw [cM,hz];have e1:d.size=s+(e-m)+(m-s)+(d.size-e):=by omega
  conv=>lhs;rw [e1]
  rw [uX,uX,uX];simp only [List.map_append];rw [show 0+s=s by omega,show 0+(s+(e-m))=s+(e-m) by omega,show 0+(s+(e-m)+(m-s))=e by omega]
  congr 1
  ·congr 1
   ·congr 1
    ·exact wU _ _ 0 0 s (fun t ht=>h3 _ (Or.inl (by omega)))
    ·exact wU _ _ _ _ _ (fun t ht=>h1 t ht)
   ·exact wU _ _ _ _ _ (fun t ht=>h2 t ht)
  ·exact wU _ _ _ _ _ (fun t ht=>h3 _ (Or.inr (by omega)))
theorem Rot.stab {K:α->κ} {s m e:Nat} {d d':Array α} (h:Rot s m e d d') (hsm:s<=m) (hme:m<=e) (he:e<=d.size)
  (hK:∀i j,s<=i->i<m->m<=j->j<e->K d[i]!≠K d[j]!):nB K d d':=by
 obtain ⟨A,L,R,B,e1,e2,hL,hR⟩:=h.parts hsm hme he;intro c;rw [e1,e2];simp only [List.filter_append]
 have:L.filter (fun x=>decide (K x=c))=[]∨R.filter (fun x=>decide (K x=c))=[]:=by
  rcases hl:L.filter (fun x=>decide (K x=c)) with _|⟨x,l⟩
  ·exact Or.inl rfl
  ·right;have hx:x∈L.filter (fun x=>decide (K x=c)):=by rw [hl];simp
   rw [List.filter_eq_nil_iff];intro y hy hyc;simp only [decide_eq_true_eq] at hyc;obtain ⟨hx1,hx2⟩:=List.mem_filter.1 hx;simp only [decide_eq_true_eq] at hx2;rw [hL,List.mem_map] at hx1;rw [hR,List.mem_map] at hy;obtain ⟨i,hi,rfl⟩:=hx1;obtain ⟨j,hj,rfl⟩:=hy;rw [List.mem_range'_1] at hi hj;exact hK i j (by omega) (by omega) (by omega) (by omega) (hx2.trans hyc.symm)
 rcases this with h0|h0<;>rw [h0]<;>simp
theorem Rot.perm {s m e:Nat} {d d':Array α} (h:Rot s m e d d') (hsm:s<=m) (hme:m<=e) (he:e<=d.size):PermIn s e d d':=by
 obtain ⟨hz,h1,h2,h3⟩:=h;refine ⟨hz,h3,?_⟩;rw [extract_toList _ _ _ (by omega),extract_toList _ _ _ he];have e1:e-s=(m-s)+(e-m):=by omega
 have e2:e-s=(e-m)+(m-s):=by omega
 conv=>lhs;rw [e2]
 conv=>rhs;rw [e1]
 rw [uX,uX];simp only [List.map_append];rw [wU (fun i=>d'[i]!) (fun i=>d[i]!) s m (e-m) (fun t ht=>h1 t ht),wU (fun i=>d'[i]!) (fun i=>d[i]!) (s+(e-m)) s (m-s) (fun t ht=>h2 t ht),show s+(m-s)=m by omega];exact List.perm_append_comm
theorem zMO (d:Array α) (j:Nat) (h:j+1<d.size):Rot j (j+1) (j+2) d (swp d (j+1) j):=by
 refine ⟨size_swp _ _ _,fun t ht=>?_,fun t ht=>?_,fun i hi=>?_⟩
 ·obtain rfl:t=0:=by omega
  exact swp_right d (j+1) j (by omega)
 ·obtain rfl:t=0:=by omega
  rw [show j+(j+2-(j+1))+0=j+1 by omega];exact swp_left d (j+1) j h (by omega)
 ·exact swp_other d (j+1) j i (by omega) (by omega)
theorem fL {K:α->κ} {lt:α->α->Bool} (hK:∀x y,lt x y=true->K x≠K y) (a:Nat):∀(j:Nat) (d:Array α),j<d.size->nB K d (insInner lt a j d)
 | 0,d,_=>nB.refl K d
 | j+1,d,hj=>by
  unfold insInner
  split
  ·rename_i hc
   simp only [Bool.and_eq_true,decide_eq_true_eq] at hc;refine nB.trans ((zMO d j hj).stab (by omega) (by omega) (by omega) fun i i' h1 h2 h3 h4=>?_) (fL hK a j _ (by rw [size_swp];omega));obtain rfl:i=j:=by omega
   obtain rfl:i'=i+1:=by omega
   exact fun e=>hK _ _ hc.2 e.symm
  ·exact nB.refl K d
theorem fK {lt:α->α->Bool} (a:Nat):∀(j:Nat) (d:Array α),(insInner lt a j d).size=d.size
 | 0,d=>rfl
 | j+1,d=>by
  unfold insInner
  split
  ·rw [fK a j,size_swp]
  ·rfl
theorem fI {K:α->κ} {lt:α->α->Bool} (hK:∀x y,lt x y=true->K x≠K y) (a b:Nat):∀(n i:Nat) (d:Array α),b-i<=n->b<=d.size->nB K d (insOuter lt a b i d)
 | 0,i,d,hn,hb=>by
  unfold insOuter;rw [if_neg (by omega)];exact nB.refl K d
 | n+1,i,d,hn,hb=>by
  unfold insOuter
  split
  ·exact (fL hK a i d (by omega)).trans (fI hK a b n (i+1) _ (by omega) (by rw [fK];exact hb))
  ·exact nB.refl K d
theorem fR {K:α->κ} {lt:α->α->Bool} (hK:∀x y,lt x y=true->K x≠K y) (d:Array α) (a b:Nat) (hb:b<=d.size):nB K d (insertionSort lt d a b) :=
 fI hK a b _ _ d (Nat.le_refl _) hb
theorem Rot.left {s m e j:Nat} {d dk d':Array α} (hsm:s<=m) (hme:m<=e) (hj:j=e-m) (hij:j<=m-s) (hz:dk.size=d.size) (h1:∀t,t<j->dk[s+t]! = d[m+t]!) (h2:∀t,t<j->dk[m+t]! = d[s+t]!)
  (h3:∀i,(i<s∨s+j<=i)->(i<m∨m+j<=i)->dk[i]! = d[i]!) (h:Rot (s+j) m e dk d'):Rot s m e d d':=by
 obtain ⟨k1,k2,k3,k4⟩:=h;refine ⟨k1.trans hz,fun t ht=>?_,fun t ht=>?_,fun i hi=>?_⟩
 ·rw [k4 _ (Or.inl (by omega))];exact h1 t (by omega)
 ·by_cases hlt:t<j
  ·have:=k2 t (by omega);rw [show s+(e-m)+t=s+j+t by omega,this];exact h2 t hlt
  ·have:=k3 (t-j) (by omega);rw [show s+(e-m)+t=s+j+(e-m)+(t-j) by omega,this,h3 _ (by omega) (by omega)]
   congr 1;omega
 ·rw [k4 _ (by omega),h3 _ (by omega) (by omega)]
theorem Rot.right {s m e i:Nat} {d dk d':Array α} (hsm:s<=m) (hme:m<=e) (hi:i=m-s) (hij:i<=e-m) (hz:dk.size=d.size) (h1:∀t,t<i->dk[s+t]! = d[e-i+t]!) (h2:∀t,t<i->dk[e-i+t]! = d[s+t]!)
  (h3:∀x,(x<s∨s+i<=x)->(x<e-i∨e<=x)->dk[x]! = d[x]!) (h:Rot s m (e-i) dk d'):Rot s m e d d':=by
 obtain ⟨k1,k2,k3,k4⟩:=h;refine ⟨k1.trans hz,fun t ht=>?_,fun t ht=>?_,fun x hx=>?_⟩
 ·by_cases hlt:t<e-i-m
  ·rw [k2 t hlt,h3 _ (by omega) (by omega)]
  ·have:=k3 (t-(e-i-m)) (by omega);rw [show s+t=s+(e-i-m)+(t-(e-i-m)) by omega,this,h1 _ (by omega)]
   congr 1;omega
 ·rw [k4 _ (by omega),show s+(e-m)+t=e-i+t by omega];exact h2 t (by omega)
 ·rw [k4 _ (by omega),h3 _ (by omega) (by omega)]
theorem Rot.even {s m e i:Nat} {d d':Array α} (hi:i=m-s) (hsm:s<=m) (hme:m<=e) (hij:i=e-m) (hz:d'.size=d.size) (h1:∀t,t<i->d'[s+t]! = d[m+t]!) (h2:∀t,t<i->d'[m+t]! = d[s+t]!)
  (h3:∀x,(x<s∨s+i<=x)->(x<m∨m+i<=x)->d'[x]! = d[x]!):Rot s m e d d' :=
 ⟨hz,fun t ht=>h1 t (by omega),fun t ht=>by rw [show s+(e-m)+t=m+t by omega];exact h2 t (by omega),fun x hx=>h3 x (by omega) (by omega)⟩
end
section
open Go.Sort
set_option linter.unusedSectionVars false
variable {α:Type} [Inhabited α] {κ:Type} [DecidableEq κ]
def Mrg (lt:α->α->Bool) (K:α->κ) (a b:Nat) (d d':Array α):Prop:=PermIn a b d d'/\SortedIn lt a b d'/\nB K d d'
theorem SWO.le_le {lt:α->α->Bool} (hS:SWO lt) {x y z:α} (h1:lt y x=false) (h2:lt z y=false):lt z x=false:=hS.ntrans _ _ _ h2 h1
theorem SWO.lt_le {lt:α->α->Bool} (hS:SWO lt) {x y z:α} (h1:lt x y=true) (h2:lt z y=false):lt x z=true:=by
 cases h:lt x z
 ·exact absurd (hS.ntrans _ _ _ h h2) (by rw [h1];simp)
 ·rfl
theorem SWO.le_lt {lt:α->α->Bool} (hS:SWO lt) {x y z:α} (h1:lt y x=false) (h2:lt y z=true):lt x z=true:=by
 cases h:lt x z
 ·exact absurd (hS.ntrans _ _ _ h1 h) (by rw [h2];simp)
 ·rfl
theorem SortedIn.le {lt:α->α->Bool} (hS:SWO lt) {a b:Nat} {d:Array α} (h:SortedIn lt a b d) {i j:Nat} (h1:a<=i) (h2:i<=j) (h3:j<b):lt d[j]! d[i]! = false:=by
 rcases Nat.eq_or_lt_of_le h2 with rfl|h4
 ·exact hS.irrefl _
 ·exact h i j h1 h4 h3
theorem Rot.shift_up {a k:Nat} {d dk:Array α} (h:Rot a (a+1) (k+1) d dk) (hak:a<=k) (hk:k+1<d.size):Rot a (a+1) (k+2) d (swp dk k (k+1)):=by
 obtain ⟨h1,h2,h3,h4⟩:=h;refine ⟨by rw [size_swp,h1],fun t ht=>?_,fun t ht=>?_,fun i hi=>?_⟩
 ·by_cases hlt:t<k+1-(a+1)
  ·rw [swp_other _ _ _ _ (by omega) (by omega)];exact h2 t hlt
  ·rw [show a+t=k by omega,swp_left _ _ _ (by omega) (by omega),h4 _ (Or.inr (by omega))];congr 1;omega
 ·obtain rfl:t=0:=by omega
  rw [show a+(k+2-(a+1))+0=k+1 by omega,swp_right _ _ _ (by omega)];have:=h3 0 (by omega);rw [show a+(k+1-(a+1))+0=k by omega] at this;exact this
 ·rw [swp_other _ _ _ _ (by omega) (by omega)];exact h4 _ (by omega)
theorem Rot.shift_down {k m:Nat} {d dk:Array α} (h:Rot (k+1) m (m+1) d dk) (hkm:k+1<=m) (hm:m<d.size):Rot k m (m+1) d (swp dk (k+1) k):=by
 obtain ⟨h1,h2,h3,h4⟩:=h;refine ⟨by rw [size_swp,h1],fun t ht=>?_,fun t ht=>?_,fun i hi=>?_⟩
 ·obtain rfl:t=0:=by omega
  show (swp dk (k+1) k)[k]! = d[m+0]!
  rw [swp_right _ _ _ (by omega)];exact h2 0 (by omega)
 ·by_cases h0:t=0
  ·subst h0;rw [show k+(m+1-m)+0=k+1 by omega,swp_left _ _ _ (by omega) (by omega),h4 _ (Or.inl (by omega)),Nat.add_zero]
  ·rw [swp_other _ _ _ _ (by omega) (by omega)];have:=h3 (t-1) (by omega);rw [show k+1+(m+1-m)+(t-1)=k+(m+1-m)+t by omega] at this;rw [this];congr 1;omega
 ·rw [swp_other _ _ _ _ (by omega) (by omega)];exact h4 _ (by omega)
theorem zFH (s m:Nat) (d:Array α):Rot s m m d d:=by
 refine ⟨rfl,fun t ht=>by omega,fun t _=>by rw [show s+(m-m)+t=s+t by omega],fun _ _=>rfl⟩
theorem zCb (m e:Nat) (d:Array α):Rot m m e d d:=by
 refine ⟨rfl,fun t _=>rfl,fun t ht=>by omega,fun _ _=>rfl⟩
theorem Rot.at1 {s m e:Nat} {d d':Array α} (h:Rot s m e d d') {p:Nat} (h1:s<=p) (h2:p<s+(e-m)):d'[p]! = d[p+(m-s)]!∨m<s:=by
 by_cases hms:m<s
 ·exact Or.inr hms
 ·left;have:=h.2.1 (p-s) (by omega);rw [show s+(p-s)=p by omega] at this;rw [this];congr 1;omega
theorem Rot.lo {s m e:Nat} {d d':Array α} (h:Rot s m e d d') (hsm:s<=m) {p:Nat} (h1:s<=p) (h2:p<s+(e-m)):d'[p]! = d[p+(m-s)]!:=by
 rcases h.at1 h1 h2 with h|h
 ·exact h
 ·omega
theorem Rot.hi {s m e:Nat} {d d':Array α} (h:Rot s m e d d') {p:Nat} (h1:s+(e-m)<=p) (h2:p<e) (hme:m<=e):d'[p]! = d[p-(e-m)]!:=by
 have:=h.2.2.1 (p-(s+(e-m))) (by omega);rw [show s+(e-m)+(p-(s+(e-m)))=p by omega] at this;rw [this];congr 1;omega
theorem Rot.out {s m e:Nat} {d d':Array α} (h:Rot s m e d d') {p:Nat} (h1:p<s∨e<=p):d'[p]! = d[p]!:=h.2.2.2 p h1
theorem Rot.merge {lt:α->α->Bool} {K:α->κ} (hS:SWO lt) (hK:∀x y,lt x y=true->K x≠K y) {a s m e b:Nat} {d d1:Array α} (h:Rot s m e d d1) (has:a<=s) (hsm:s<=m) (hme:m<=e) (heb:e<=b) (hb:b<=d.size)
  (hL:SortedIn lt a m d) (hR:SortedIn lt m b d)
  (hlow:a<s->e<b->lt d[e]! d[s-1]! = false) (hhigh:s<m->m<e->lt d[e-1]! d[s]! = true) :
  PermIn a b d d1/\nB K d d1/\SortedIn lt a s d1/\SortedIn lt s (s+(e-m)) d1/\SortedIn lt (s+(e-m)) e d1/\SortedIn lt e b d1 /\
   (∀p q,a<=p->p<s+(e-m)->s+(e-m)<=q->q<b->lt d1[q]! d1[p]! = false):=by
 have hx:∀i j,s<=i->i<m->m<=j->j<e->lt d[j]! d[i]! = true:=fun i j h1 h2 h3 h4=>by
  have t:=hhigh (by omega) (by omega);exact SWO.lt_le hS (SWO.le_lt hS (SortedIn.le hS hR h3 (show j<=e-1 by omega) (by omega)) t) (SortedIn.le hS hL has h1 h2)
 have hy:∀i j,a<=i->i<s->e<=j->j<b->lt d[j]! d[i]! = false:=fun i j h1 h2 h3 h4=>by
  have t:=hlow (by omega) (by omega);exact SWO.le_le hS (SWO.le_le hS (SortedIn.le hS hL h1 (show i<=s-1 by omega) (by omega)) t) (SortedIn.le hS hR hme h3 h4)
 refine ⟨permIn_mono _ _ _ _ _ _ has heb hb (h.perm hsm hme (by omega)),h.stab hsm hme (by omega) (fun i j h1 h2 h3 h4 e=>hK _ _ (hx i j h1 h2 h3 h4) e.symm),fun i j h1 h2 h3=>?_,fun i j h1 h2 h3=>?_,fun i j h1 h2 h3=>?_,fun i j h1 h2 h3=>?_,fun p q h1 h2 h3 h4=>?_⟩
 ·rw [h.out (Or.inl (by omega)),h.out (Or.inl (by omega))];exact hL i j h1 h2 (by omega)
 ·rw [h.lo hsm (by omega) (by omega),h.lo hsm (by omega) (by omega)];exact hR _ _ (by omega) (by omega) (by omega)
 ·rw [h.hi (by omega) (by omega) hme,h.hi (by omega) (by omega) hme];exact hL _ _ (by omega) (by omega) (by omega)
 ·rw [h.out (Or.inr (by omega)),h.out (Or.inr (by omega))];exact hR i j (by omega) h2 (by omega)
 ·by_cases c1:p<s
  ·rw [h.out (p:=p) (Or.inl c1)]
   by_cases c2:q<e
   ·rw [h.hi h3 c2 hme];exact SortedIn.le hS hL h1 (by omega) (by omega)
   ·rw [h.out (Or.inr (by omega))];exact hy p q h1 c1 (by omega) h4
  ·rw [h.lo (p:=p) hsm (by omega) h2]
   by_cases c2:q<e
   ·rw [h.hi h3 c2 hme];exact SWO.asymmA hS (hx _ _ (by omega) (by omega) (by omega) (by omega))
   ·rw [h.out (Or.inr (by omega))];exact SortedIn.le hS hR (by omega) (by omega) h4
theorem zCL {lt:α->α->Bool} {a c b:Nat} {d1 d2 d3:Array α} (hac:a<=c) (hcb:c<=b) (hb:b<=d1.size)
  (hX:∀p q,a<=p->p<c->c<=q->q<b->lt d1[q]! d1[p]! = false) (p2:PermIn a c d1 d2) (s2:SortedIn lt a c d2) (p3:PermIn c b d2 d3) (s3:SortedIn lt c b d3) :
  PermIn a b d1 d3/\SortedIn lt a b d3:=by
 have z2:=p2.1
 have hX2:∀q,c<=q->q<b->∀p,a<=p->p<c->lt d2[q]! d2[p]! = false:=fun q h1 h2=>by
  rw [p2.2.1 q (Or.inr h1)];exact permIn_all d1 d2 a c (fun x=>lt d1[q]! x=false) (by omega) p2 (fun p h3 h4=>hX p q h3 h4 h1 h2)
 have hX3:∀p,a<=p->p<c->∀q,c<=q->q<b->lt d3[q]! d3[p]! = false:=fun p h1 h2=>by
  rw [p3.2.1 p (Or.inl h2)];exact permIn_all d2 d3 c b (fun x=>lt x d2[p]! = false) (by omega) p3 (fun q h3 h4=>hX2 q h3 h4 p h1 h2)
 refine ⟨permIn_trans _ _ _ _ _ (permIn_mono _ _ _ _ _ _ (Nat.le_refl _) hcb hb p2) (permIn_mono _ _ _ _ _ _ hac (Nat.le_refl _) (by omega) p3),fun i j h1 h2 h3=>?_⟩
 by_cases c1:i<c
 ·by_cases c2:j<c
  ·rw [p3.2.1 i (Or.inl c1),p3.2.1 j (Or.inl c2)];exact s2 i j h1 h2 c2
  ·exact hX3 i h1 c1 j (by omega) h3
 ·exact s3 i j (by omega) h2 h3
theorem Mrg.of_rot {lt:α->α->Bool} {K:α->κ} (hS:SWO lt) (hK:∀x y,lt x y=true->K x≠K y) {a s m e b:Nat} {d d1 d2 d3:Array α} (h:Rot s m e d d1) (has:a<=s) (hsm:s<=m) (hme:m<=e) (heb:e<=b) (hb:b<=d.size)
  (hL:SortedIn lt a m d) (hR:SortedIn lt m b d) (hlow:a<s->e<b->lt d[e]! d[s-1]! = false) (hhigh:s<m->m<e->lt d[e-1]! d[s]! = true)
  (m2:Mrg lt K a (s+(e-m)) d1 d2) (m3:Mrg lt K (s+(e-m)) b d2 d3):Mrg lt K a b d d3:=by
 obtain ⟨p1,st1,_,_,_,_,hX⟩:=h.merge (K:=K) hS hK has hsm hme heb hb hL hR hlow hhigh;obtain ⟨p2,s2,st2⟩:=m2;obtain ⟨p3,s3,st3⟩:=m3;obtain ⟨p,s⟩:=zCL (by omega) (by omega) (by rw [h.1];exact hb) hX p2 s2 p3 s3;exact ⟨permIn_trans _ _ _ _ _ p1 p,s,st1.trans (st2.trans st3)⟩
theorem Mrg.none {lt:α->α->Bool} {K:α->κ} {a b:Nat} {d:Array α} (h:SortedIn lt a b d):Mrg lt K a b d d:=⟨permIn_refl _ _ _,h,nB.refl K d⟩
theorem Mrg.one_left {lt:α->α->Bool} {K:α->κ} (hS:SWO lt) (hK:∀x y,lt x y=true->K x≠K y) {a i b:Nat} {d d':Array α} (h:Rot a (a+1) i d d') (hi:a+1<=i) (hib:i<=b) (hb:b<=d.size) (hR:SortedIn lt (a+1) b d)
  (hlo:a+1<i->lt d[i-1]! d[a]! = true) (hhi:i<b->lt d[i]! d[a]! = false):Mrg lt K a b d d':=by
 have hL:SortedIn lt a (a+1) d:=fun i j h1 h2 h3=>by omega
 obtain ⟨p1,st1,_,s2,_,s4,hX⟩:=h.merge (K:=K) hS hK (Nat.le_refl _) (by omega) hi hib hb hL hR (fun h=>by omega) (fun _ h=>hlo h);refine ⟨p1,fun p q h1 h2 h3=>?_,st1⟩;have e1:a+(i-(a+1))=i-1:=by omega
 rw [e1] at s2 hX
 by_cases c1:p<i-1
 ·by_cases c2:q<i-1
  ·exact s2 p q h1 h2 c2
  ·exact hX p q h1 c1 (by omega) h3
 ·by_cases c3:p=i-1
  ·rw [h.out (p:=q) (Or.inr (by omega)),h.hi (p:=p) (by omega) (by omega) hi,show p-(i-(a+1))=a by omega];exact SWO.le_le hS (hhi (by omega)) (SortedIn.le hS hR (by omega) (show i<=q by omega) h3)
  ·exact s4 p q (by omega) h2 h3
theorem Mrg.one_right {lt:α->α->Bool} {K:α->κ} (hS:SWO lt) (hK:∀x y,lt x y=true->K x≠K y) {a i m:Nat} {d d':Array α} (h:Rot i m (m+1) d d') (hai:a<=i) (him:i<=m) (hb:m+1<=d.size) (hL:SortedIn lt a m d)
  (hlo:a<i->lt d[m]! d[i-1]! = false) (hhi:i<m->lt d[m]! d[i]! = true):Mrg lt K a (m+1) d d':=by
 have hR:SortedIn lt m (m+1) d:=fun i j h1 h2 h3=>by omega
 obtain ⟨p1,st1,s1,_,s3,_,hX⟩:=h.merge (K:=K) hS hK hai him (by omega) (Nat.le_refl _) hb hL hR (fun _ h=>by omega) (fun h _=>by rw [show m+1-1=m by omega];exact hhi h);rw [show i+(m+1-m)=i+1 by omega] at s3 hX;refine ⟨p1,fun p q h1 h2 h3=>?_,st1⟩
 by_cases c1:i+1<=q
 ·by_cases c2:i+1<=p
  ·exact s3 p q c2 h2 h3
  ·exact hX p q h1 (by omega) c1 h3
 ·by_cases c3:q=i
  ·rw [h.lo (p:=q) him (by omega) (by omega),h.out (p:=p) (Or.inl (by omega)),show q+(m-i)=m by omega];exact SWO.le_le hS (SortedIn.le hS hL h1 (show p<=i-1 by omega) (by omega)) (hlo (by omega))
  ·exact s1 p q h1 h2 (by omega)
end
section
theorem zAr (a:List UInt8):Lib.compareBytes a a=0:=by
 induction a with
 | nil=>rfl
 | cons x a ih=>unfold Lib.compareBytes;simp [ih]
theorem zAe (a b:List UInt8):Lib.compareBytes a b=0↔a=b:=by
 constructor
 ·induction a generalizing b with
  | nil=>cases b with
   | nil=>intro _;rfl
   | cons y b=>intro h;simp [Lib.compareBytes] at h
  | cons x a ih=>cases b with
   | nil=>intro h;simp [Lib.compareBytes] at h
   | cons y b =>
    intro h;unfold Lib.compareBytes at h
    split at h
    ·simp at h
    ·split at h
     ·simp at h
     ·rename_i h1 h2
      have:x=y:=by
       apply UInt8.toNat_inj.1
       rw [UInt8.lt_iff_toNat_lt] at h1 h2;omega
      rw [this,ih b h]
 ·rintro rfl;exact zAr a
theorem zD0 (a b:List UInt8):Lib.compareBytes b a=- Lib.compareBytes a b:=by
 induction a generalizing b with
 | nil=>cases b<;>simp [Lib.compareBytes]
 | cons x a ih=>cases b with
  | nil=>simp [Lib.compareBytes]
  | cons y b =>
   unfold Lib.compareBytes
   by_cases h1:x<y
   ·have h2:¬ y<x:=by rw [UInt8.lt_iff_toNat_lt] at h1 ⊢;omega
    simp [h1,h2]
   ·by_cases h2:y<x
    ·simp [h1,h2]
    ·simp [h1,h2,ih b]
theorem zKn (a b:List UInt8):Lib.compareBytes a b=-1∨Lib.compareBytes a b=0∨Lib.compareBytes a b=1:=by
 induction a generalizing b with
 | nil=>cases b<;>simp [Lib.compareBytes]
 | cons x a ih=>cases b with
  | nil=>simp [Lib.compareBytes]
  | cons y b =>
   unfold Lib.compareBytes
   by_cases h1:x<y
   ·simp [h1]
   ·by_cases h2:y<x
    ·simp [h1,h2]
    ·simpa [h1,h2] using ih b
theorem gG (a b c:List UInt8) (h1:Lib.compareBytes a b<0) (h2:Lib.compareBytes b c<0):Lib.compareBytes a c<0:=by
 induction a generalizing b c with
 | nil=>cases c with
  | nil=>cases b<;>simp [Lib.compareBytes] at h1 h2
  | cons z c=>simp [Lib.compareBytes]
 | cons x a ih=>cases b with
  | nil=>simp [Lib.compareBytes] at h1
  | cons y b=>cases c with
   | nil=>simp [Lib.compareBytes] at h2
   | cons z c =>
    unfold Lib.compareBytes at h1 h2 ⊢;simp only [UInt8.lt_iff_toNat_lt] at h1 h2 ⊢
    by_cases p1:x.toNat<y.toNat
    ·by_cases q1:y.toNat<z.toNat
     ·rw [if_pos (by omega)];decide
     ·rw [if_neg q1] at h2
      by_cases q2:z.toNat<y.toNat
      ·rw [if_pos q2] at h2;simp at h2
      ·rw [if_pos (by omega)];decide
    ·rw [if_neg p1] at h1
     by_cases p2:y.toNat<x.toNat
     ·rw [if_pos p2] at h1;simp at h1
     ·rw [if_neg p2] at h1
      by_cases q1:y.toNat<z.toNat
      ·rw [if_pos (by omega)];decide
      ·rw [if_neg q1] at h2
       by_cases q2:z.toNat<y.toNat
       ·rw [if_pos q2] at h2;simp at h2
       ·rw [if_neg q2] at h2;rw [if_neg (by omega),if_neg (by omega)];exact ih b c h1 h2
theorem zIU (a b:List UInt8):decide (Lib.compareBytes a b<0)=Op.bytesLess a b:=by
 induction a generalizing b with
 | nil=>cases b<;>simp [Lib.compareBytes,Op.bytesLess]
 | cons x a ih=>cases b with
  | nil=>simp [Lib.compareBytes,Op.bytesLess]
  | cons y b =>
   unfold Lib.compareBytes Op.bytesLess;rw [<-ih b]
   by_cases h1:x<y
   ·simp [h1]
   ·by_cases h2:y<x
    ·have hne:(x==y)=false:=by
      rw [beq_eq_false_iff_ne];rintro rfl;exact h1 h2
     simp [h1,h2,hne]
    ·have he:x=y:=by
      apply UInt8.toNat_inj.1
      rw [UInt8.lt_iff_toNat_lt] at h1 h2;omega
     simp [he]
def mY (x y:Int):Int:=if x=0 then y else x
end
section
open Go.RowKit Go.Sort Go.Lib
def wP (x y:Fx):Int:=Lib.compareBytes x.name.data.toList y.name.data.toList
theorem ltF (x y:Fx):ltOf wP x y=decide (Lib.compareBytes x.name.data.toList y.name.data.toList<0):=rfl
theorem zMK:SWO (ltOf wP) where
 irrefl x:=by rw [ltF,(zAe _ _).2 rfl];rfl
 trans x y z h1 h2:=by
  rw [ltF,decide_eq_true_iff] at *;exact gG _ _ _ h1 h2
 ntrans x y z h1 h2:=by
  rw [ltF,decide_eq_false_iff_not] at *;intro h;have n1:=zD0 x.name.data.toList y.name.data.toList;have n2:=zD0 y.name.data.toList z.name.data.toList
  rcases zKn y.name.data.toList x.name.data.toList with h3|h3|h3
  ·have h4:=gG _ _ _ (show Lib.compareBytes y.name.data.toList x.name.data.toList<0 by omega) h;exact h2 h4
  ·have e:=(zAe _ _).1 h3;rw [e] at h2;exact h2 h
  ·omega
theorem zD2 (x y:Fx) (h:ltOf wP x y=true):x.name≠y.name:=by
 rw [ltF,decide_eq_true_iff] at h;intro e;rw [e,zAr] at h;omega
theorem zBu (x y:Fx) (w:World):Calls Tryz.prog 187 #[x.val,y.val] w fun e w'=>e=.returned (.int .i64 (wP x y))/\zK w w':=by
 obtain ⟨nm,p,cap,ts⟩:=x;obtain ⟨nm',p',cap',ts'⟩:=y;simp only [Fx.val,yF,Fx.sl];have HC:Hid (wP ⟨nm,p,cap,ts⟩ ⟨nm',p',cap',ts'⟩=Lib.compareBytes nm.L nm'.L):=rfl;go_enter Tryz.func187,Tryz.ntmps187;go_wp2_with (first|(go_at_call 199;refine (Tryz.strings_Compare _ _ _).mono ?_;rintro e w1 ⟨rfl,rfl⟩));go_ret;exact ⟨yY HC.out.symm,((zK.refl _).alloc _).alloc _⟩
theorem zLI (blk off size:Nat) (w:World):CmpLays Tryz.prog 187 #[] yF 2 wP blk off size w :=
 fun _ _ _ _ x y=>zBu x y _
theorem qJ:∀args w,(callFunc 187 args).run Tryz.prog w=.ok (.enter 187 args) w:=enters_of Tryz.func187 (by kernel_rfl) rfl
theorem zEY (x:Fx):∀v∈yF x,v.oneCell'=true:=fun v hv=>by simp [yF] at hv;rcases hv with rfl|rfl<;>rfl
theorem zM1 (blk off cap a b:Nat) (d:Array Fx) (w:World) (hH:HoldsK yF 2 w blk off d) (hblk:blk<w.heap.size) (hab:a<=b) (hb:b<=d.size) (hsz:d.size<4611686018427387904) :
  Calls Tryz.prog 231 #[.slice (some ⟨blk,off,none⟩) d.size cap,.int .i64 a,.int .i64 b,.func (.func 187) #[] #[]] w fun e w' =>
   e=.returned (.tuple #[])/\∃n os,w'=sortWorldK yF 2 w blk off n (Sort.insertionSort (ltOf wP) d a b) os :=
 AnyQ.insertionSortCmpFunc Tryz.insFld 2 Tryz.isAgg45 Tryz.sizeOf45 yF (fun _=>rfl) zEY wP 187 #[] blk off cap a b d w qJ (zLI blk off d.size w) hH hblk hab hb hsz
def zKZ (w:World) (blk off:Nat) (d:Array Fx) (w':World):Prop :=
 ∃d' n os,PermIn 0 d.size d d'/\SortedIn (ltOf wP) 0 d.size d'/\nB Fx.name d d'/\w'=sortWorldK yF 2 w blk off n d' os
theorem zKc (p:Option Addr) (cap:Nat) (fv:Value) (w:World) :
  Calls Tryz.prog 231 #[.slice p 0 cap,.int .i64 0,.int .i64 0,fv] w fun e w'=>e=.returned (.tuple #[])/\w'=w:=by
 go_enter Tryz.func231,Tryz.ntmps231
 go_wp2_with fail
 refine wp_loop_rounds 1 ?_;rw [rounds_succ];go_wp2_with fail
 go_end0
 exact ⟨rfl,rfl⟩
theorem zFo (p:Option Addr) (cap:Nat) (fv:Value) (w:World) :
  Calls Tryz.prog 213 #[.slice p 0 cap,.int .i64 0,fv] w fun e w'=>e=.returned (.tuple #[])/\w'=w:=by
 go_enter Tryz.func213,Tryz.ntmps213
 go_wp2_with fail
 refine wp_loop_rounds 1 ?_;rw [rounds_succ];go_wp2_with (first|(go_at_call 231;refine (zKc _ _ _ _).mono ?_;rintro e w1 ⟨rfl,rfl⟩));refine wp_loop_rounds 1 ?_;rw [rounds_succ];go_wp2_with fail
 go_end0
 exact ⟨rfl,rfl⟩
theorem zJS (p:Option Addr) (cap:Nat) (fv:Value) (w:World) :
  Calls Tryz.prog 186 #[.slice p 0 cap,fv] w fun e w'=>e=.returned (.tuple #[])/\w'=w:=by
 go_enter Tryz.func186,Tryz.ntmps186
 go_wp2_with (first|(go_at_call 213;refine (zFo _ _ _ _).mono ?_;rintro e w1 ⟨rfl,rfl⟩))
 go_end0
 exact ⟨rfl,rfl⟩
end
section
open Go.RowKit
theorem zFC (p q:Option Addr) (c c':Nat) (xs ys:List ByteArray) (w:World) (hx:wJ w p xs) (hy:wJ w q ys) (hlx:xs.length<=maxLen) (hly:ys.length<=maxLen) :
  Calls Tryz.prog 144 #[.slice p xs.length c,.slice q ys.length c'] w fun e w'=>e=.returned (.bool (decide (xs=ys)))/\∃n,w'=w.drewN n:=by
 unfold maxLen at hlx hly
 rcases hx with rfl|⟨b,off,rfl,hx⟩
 ·refine (Tryz.slices_Equal_string_empty p q c ys.length c' w (by omega)).mono ?_;rintro e w' ⟨rfl,rfl⟩;refine ⟨zA ?_,0,rfl⟩
  cases ys<;>simp
 ·rcases hy with rfl|⟨b',off',rfl,hy⟩
  ·by_cases h0:xs.length=0
   ·obtain rfl:=List.length_eq_zero_iff.1 h0;refine (Tryz.slices_Equal_string_empty _ q c 0 c' w (by omega)).mono ?_;rintro e w' ⟨rfl,rfl⟩;exact ⟨rfl,0,rfl⟩
   ·refine (Tryz.slices_Equal_string_lens _ q xs.length c 0 c' w h0).mono ?_;rintro e w' ⟨rfl,rfl⟩;refine ⟨zA ?_,0,rfl⟩;rw [eq_comm,decide_eq_false_iff_not];rintro rfl;exact h0 rfl
  ·refine (Tryz.slices_Equal_string b off xs.length c b' off' ys.length c' xs ys w (Nat.le_refl _) (Nat.le_refl _) (by omega) (by omega) (fun j hj=>?_) (fun j hj=>?_)).mono ?_
   ·rw [hx j hj,List.getD_eq_getElem?_getD,List.getElem?_eq_getElem hj];rfl
   ·rw [hy j hj,List.getD_eq_getElem?_getD,List.getElem?_eq_getElem hj];rfl
   ·rintro e w' ⟨rfl,hq⟩;rw [List.take_length,List.take_length];exact ⟨rfl,hq⟩
theorem gS (a b:ByteArray):(a.toList==b.toList)=decide (a=b):=by
 rw [Bool.eq_iff_iff];simp only [beq_iff_eq,decide_eq_true_eq];constructor
 ·intro h;rw [Lib.toList_data,Lib.toList_data] at h;obtain ⟨⟨l⟩⟩:=a;obtain ⟨⟨m⟩⟩:=b;simp at h;rw [h]
 ·rintro rfl;rfl
theorem zCX (x y:Fx) (w:World) (hx:x.at w) (hy:y.at w) (hlx:x.txt.length<=maxLen) (hly:y.txt.length<=maxLen) :
  Calls Tryz.prog 102 #[x.val,y.val] w fun e w'=>e=.returned (.bool (decide (x.fld=y.fld)))/\zK w w':=by
 obtain ⟨nm,p,cap,ts⟩:=x;obtain ⟨nm',p',cap',ts'⟩:=y;simp only [Fx.val,yF,Fx.sl,Fx.fld,Fx.at] at *;have hg0:zK w ((w.alloc (.cells #[tq nm,sc p ts.length cap] 45)).alloc (.cells #[tq nm',sc p' ts'.length cap'] 45)):=((zK.refl _).alloc _).alloc _;have HE:=hid (zFC p p' cap cap' ts ts' _ (hx.kept hg0.below) (hy.kept hg0.below) hlx hly);clear hx hy
 cases hn:(nm.toList==nm'.toList) with
 | false =>
  have H0:Hid (decide ((nm,ts)=(nm',ts'))=false):=by
   show _=_
   rw [gS,decide_eq_false_iff_not] at hn;rw [decide_eq_false_iff_not];intro h;exact hn (Prod.mk.inj h).1
  go_enter Tryz.func102,Tryz.ntmps102
  go_wp2_with (first|(go_at_call 144;refine HE.out.mono ?_;rintro e w1 ⟨rfl,q,rfl⟩))
  go_ret;exact ⟨zA H0.out.symm,hg0⟩
 | true =>
  have H0:Hid (decide ((nm,ts)=(nm',ts'))=decide (ts=ts')):=by
   show _=_
   rw [gS,decide_eq_true_eq] at hn;subst hn;simp
  go_enter Tryz.func102,Tryz.ntmps102
  go_wp2_with (first|(go_at_call 144;refine HE.out.mono ?_;rintro e w1 ⟨rfl,q,rfl⟩))
  go_ret;exact ⟨zA H0.out.symm,hg0.drewN q⟩
theorem zEP:∀args w,(callFunc 102 args).run Tryz.prog w=.ok (.enter 102 args) w:=enters_of Tryz.func102 (by kernel_rfl) rfl
theorem zCR (v v':Value) (d d':List Fx) (w:World) (hv:qZ w v d) (hv':qZ w v' d') (hf:sD d) (hf':sD d') :
  Calls Tryz.prog 101 #[v,v',.func (.func 102) #[] #[]] w fun e w'=>e=.returned (.bool (decide (d.map Fx.fld=d'.map Fx.fld)))/\zK w w':=by
 obtain ⟨p,cap,rfl,hd,ht⟩:=hv;obtain ⟨p',cap',rfl,hd',ht'⟩:=hv';have HT:=hid ht;have HT':=hid ht';have HD:=hid hd;have HD':=hid hd';have HF:=hid hf.2;have HF':=hid hf'.2;have hl:=hf.1;have hl':=hf'.1;unfold maxLen at hl hl';clear ht ht' hd hd' hf hf';obtain ⟨r,hr⟩:∃r,decide (d.map Fx.fld=d'.map Fx.fld)=r:=⟨_,rfl⟩;rw [hr];have HR:=hid hr;clear hr
 by_cases hlen:d.length=d'.length
 ·have HL:=hid hlen;rw [<-hlen];clear hlen hl';go_enter Tryz.func101,Tryz.ntmps101;go_wp2_with fail
  go_loopg [17] d.length (fun g vi wr=>∃i:Nat,vi=ii i/\i<=d.length/\d.length-i<=g/\zK w wr/\Hid ((d.map Fx.fld).take i=(d'.map Fx.fld).take i))
  case atStart=>exact ⟨0,rfl,by omega,by omega,zK.refl _,rfl⟩
  case round =>
   obtain ⟨i,rfl,hi,hg,hb,HJ⟩:=hrel
   by_cases hlt:i<d.length
   ·have hltz:(i:Int)<(d.length:Int):=by omega
    have hiz:(0:Int)<=i:=by omega
    have hlt':i<d'.length:=by have:=HL.out;omega
    obtain ⟨b,off,rfl,hxs⟩:∃b off,p=some (aa b off)/\kL w b off d:=by
     rcases HD.out with h|h
     ·subst h;simp at hlt
     ·exact h
    obtain ⟨b',off',rfl,hxs'⟩:∃b off,p'=some (aa b off)/\kL w b off d':=by
     rcases HD'.out with h|h
     ·rw [h] at hlt';simp at hlt'
     ·exact h
    obtain ⟨c0,c1⟩:=hxs.kept hb.below i hlt;obtain ⟨e0,e1⟩:=hxs'.kept hb.below i hlt';have hxi:(d[i]).at w:=HT.out _ (List.getElem_mem hlt);have hyi:(d'[i]).at w:=HT'.out _ (List.getElem_mem hlt');have hfi:=(HF.out _ (List.getElem_mem hlt)).2.1;have hfi':=(HF'.out _ (List.getElem_mem hlt')).2.1
    have hst:decide ((d[i]).fld=(d'[i]).fld)=true->(d.map Fx.fld).take (i+1)=(d'.map Fx.fld).take (i+1):=fun h=>by
     rw [List.take_succ_eq_append_getElem (by rw [List.length_map];exact hlt),List.take_succ_eq_append_getElem (by rw [List.length_map];exact hlt'),HJ.out];simp only [List.getElem_map];rw [of_decide_eq_true h]
    have hno:decide ((d[i]).fld=(d'[i]).fld)=false->r=false:=fun h=>by
     rw [<-HR.out,decide_eq_false_iff_not];intro e;have:(d.map Fx.fld)[i]'(by rw [List.length_map];exact hlt)=(d'.map Fx.fld)[i]'(by rw [List.length_map];exact hlt'):=by simp only [e]
     simp only [List.getElem_map] at this;exact (of_decide_eq_false h) this
    obtain ⟨x,hx⟩:∃x,d[i]=x:=⟨_,rfl⟩;obtain ⟨y,hy⟩:∃y,d'[i]=y:=⟨_,rfl⟩;rw [hx] at c0 c1 hxi hfi hst hno;rw [hy] at e0 e1 hyi hfi' hst hno;have HXI:=hid hxi;have HYI:=hid hyi;have HFI:=hid (And.intro hfi hfi');have HST:=hid hst;have HNO:=hid hno;clear hxs hxs' hxi hyi hfi hfi' hx hy hst hno;unfold Fx.sl at c1 e1;have hgW:zK w ((wr.alloc (.cells #[tq x.name,sc x.p x.txt.length x.cap] 45)).alloc (.cells #[tq y.name,sc y.p y.txt.length y.cap] 45)):=(hb.alloc _).alloc _
    have e0':(wr.alloc (.cells #[tq x.name,sc x.p x.txt.length x.cap] 45)).cell? (aa b' (off'+i * 2))=some (tq y.name):=by
     rw [World.cell?_alloc_lt _ _ (aa b' (off'+i * 2)) (zJ e0)];exact e0
    have e1':(wr.alloc (.cells #[tq x.name,sc x.p x.txt.length x.cap] 45)).cell? (aa b' (off'+i * 2+1))=some (sc y.p y.txt.length y.cap):=by
     rw [World.cell?_alloc_lt _ _ (aa b' (off'+i * 2+1)) (zJ e1)];exact e1
    have HC:=hid (zCX x y _ (HXI.out.kept hgW.below) (HYI.out.kept hgW.below) HFI.out.1 HFI.out.2);have HGW:=hid hgW;have hen:=zEP;clear hgW e0 e1
    cases hq:decide (x.fld=y.fld) with
    | false =>
     rw [hq] at HC;go_wp2_with (first|(go_at_call 102;refine HC.out.mono ?_;rintro e w2 ⟨rfl,hg2⟩));go_ret;exact ⟨zA (HNO.out hq).symm,HGW.out.trans hg2⟩
    | true =>
     rw [hq] at HC;go_wp2_with (first|(go_at_call 102;refine HC.out.mono ?_;rintro e w2 ⟨rfl,hg2⟩));go_roundg (d.length-(i+1))
     case measure=>omega
     exact ⟨i+1,by go_num,by omega,by omega,HGW.out.trans hg2,HST.out hq⟩
   ·have hltz:¬ (i:Int)<(d.length:Int):=by omega
    have H0:Hid (r=true):=by
     show r=true
     rw [<-HR.out,decide_eq_true_eq];have h:=HJ.out;rw [List.take_of_length_le (by rw [List.length_map];omega),List.take_of_length_le (by rw [List.length_map];have:=HL.out;omega)] at h;exact h
    go_wp2_with fail
    go_ret;exact ⟨zA H0.out.symm,hb⟩
 ·have H0:Hid (r=false):=by
   show r=false
   rw [<-HR.out,decide_eq_false_iff_not];intro e;have:=congrArg List.length e;simp at this;exact hlen this
  have hz:¬ (d.length:Int)=(d'.length:Int):=by omega
  go_enter Tryz.func101,Tryz.ntmps101
  go_wp2_with fail
  go_ret;exact ⟨zA H0.out.symm,zK.refl _⟩
theorem zJf (v v':Value) (d d':List Fx) (w:World) (hv:qZ w v d) (hv':qZ w v' d') (hf:sD d) (hf':sD d') :
  Calls Tryz.prog 57 #[v,v'] w fun e w'=>e=.returned (.bool (decide (d.map Fx.fld=d'.map Fx.fld)))/\zK w w':=by
 have HC:=hid (zCR v v' d d' w hv hv' hf hf');clear hv hv';go_enter Tryz.func57,Tryz.ntmps57;go_wp2_with (first|(go_at_call 101;refine HC.out.mono ?_;rintro e w2 ⟨rfl,hg2⟩));go_ret;exact ⟨rfl,hg2⟩
end
section
open Go.RowKit
theorem zBf (p:Option Addr) (cap:Nat) (ts:List ByteArray) (w:World) (h:wJ w p ts) (hs:ts.length * 16<=140737488355328) :
  Calls Tryz.prog 188 #[.slice p ts.length cap] w fun e w'=>∃v,e=.returned v/\yV w.heap.size w' v ts/\Below w.heap.size w w':=by
 rcases h with rfl|⟨b,off,rfl,hc⟩
 ·cases p with
  | none =>
   refine (Tryz.slices_Clone_string_nil 0 cap w).mono ?_;rintro e w' ⟨rfl,rfl⟩;exact ⟨_,rfl,World.ownsRow_nil _ _ _ _,Below.refl _ _⟩
  | some a =>
   refine (Tryz.slices_Clone_string_zero a cap w).mono ?_;rintro e w' ⟨v,rfl,ho,_,hb⟩;exact ⟨_,rfl,ho,hb⟩
 ·refine (Tryz.slices_Clone_string b off ts.length cap ts w (Nat.le_refl _) hs (fun j hj=>?_)).mono ?_
  ·rw [hc j hj,List.getD_eq_getElem?_getD,List.getElem?_eq_getElem hj];rfl
  ·rintro e w' ⟨v,rfl,ho,_,hb⟩;rw [List.take_length] at ho;exact ⟨_,rfl,ho,hb⟩
end
section
open Go.RowKit Go.Sort Go.Lib
def wC (o:List Fld) (f:Fld):List Fld :=
 match o.getLast? with
 | some l=>if l.1=f.1 then o.dropLast++[(l.1,l.2++f.2)] else o++[f]
 | none=>[f]
def wN (fs:List Fld):List Fld:=fs.foldl wC []
def vN (fs:List Fld):Nat:=(fs.map fun f=>f.2.length).sum
theorem pP (f:Fld):wC [] f=[f]:=rfl
theorem tL (o:List Fld) (l f:Fld) (h:l.1=f.1):wC (o++[l]) f=o++[(l.1,l.2++f.2)]:=by
 simp [wC,h]
theorem uZ (o:List Fld) (l f:Fld) (h:l.1≠f.1):wC (o++[l]) f=o++[l]++[f]:=by
 simp [wC,h]
theorem zBi (fs:List Fld) (f:Fld):wN (fs++[f])=wC (wN fs) f:=by simp [wN]
theorem tW (a b:List Fld):vN (a++b)=vN a+vN b:=by simp [vN]
theorem kH (f:Fld):vN [f]=f.2.length:=by simp [vN]
theorem zIw (o:List Fld) (f:Fld):vN (wC o f)=vN o+f.2.length:=by
 rcases List.eq_nil_or_concat o with rfl|⟨o',l,rfl⟩
 ·rw [pP,kH];simp [vN]
 ·rw [List.concat_eq_append]
  by_cases h:l.1=f.1
  ·rw [tL _ _ _ h,tW,tW,kH,kH,List.length_append];omega
  ·rw [uZ _ _ _ h,tW,kH]
theorem zBt (fs:List Fld):vN (wN fs)=vN fs:=by
 have:∀(l o:List Fld),vN (l.foldl wC o)=vN o+vN l:=by
  intro l
  induction l with
  | nil=>intro o;simp [vN]
  | cons f l ih =>
   intro o;rw [List.foldl_cons,ih,zIw];have:vN (f::l)=f.2.length+vN l:=by simp [vN]
   omega
 have h:=this fs []
 simpa [wN,vN] using h
theorem zDR (o:List Fld) (f:Fld):(wC o f).length<=o.length+1:=by
 rcases List.eq_nil_or_concat o with rfl|⟨o',l,rfl⟩
 ·simp [pP]
 ·rw [List.concat_eq_append]
  by_cases h:l.1=f.1
  ·rw [tL _ _ _ h];simp
  ·rw [uZ _ _ _ h];simp
theorem zDD (fs:List Fld):(wN fs).length<=fs.length:=by
 have:∀(l o:List Fld),(l.foldl wC o).length<=o.length+l.length:=by
  intro l
  induction l with
  | nil=>intro o;simp
  | cons f l ih =>
   intro o;rw [List.foldl_cons,List.length_cons];have h1:=ih (wC o f);have h2:=zDR o f;omega
 have h:=this fs []
 simpa [wN] using h
theorem zBl {fs:List Fld} {f:Fld} (h:f∈fs):f.2.length<=vN fs:=by
 obtain ⟨a,b,rfl⟩:=List.append_of_mem h;have:vN (a++f::b)=vN a+(f.2.length+vN b):=by simp [vN]
 omega
def zBb (o:List Fx):Prop:=o.Pairwise fun x y=>x.sl.ownBlock=none∨x.sl.ownBlock≠y.sl.ownBlock
def uW (N:Nat) (w:World) (v:Value) (o:List Fx):Prop:=vQ N w v o/\zBb o
theorem uW.on {N:Nat} {w w':World} {v:Value} {o:List Fx} (h:uW N w v o) (hb:Below w.heap.size w w'):uW N w' v o:=⟨h.1.on hb,h.2⟩
theorem zBO {o:List Fx} {x:Fx} (h:zBb o) (hx:∀y∈o,y.sl.ownBlock=none∨y.sl.ownBlock≠x.sl.ownBlock):zBb (o++[x]):=by
 unfold zBb;rw [List.pairwise_append];exact ⟨h,List.pairwise_singleton _ _,fun a ha b hb=>by rw [List.mem_singleton] at hb;subst hb;exact hx a ha⟩
theorem zGa {o:List Fx} {x:Fx} (h:zBb (o++[x])):zBb o/\∀y∈o,y.sl.ownBlock=none∨y.sl.ownBlock≠x.sl.ownBlock:=by
 unfold zBb at h;rw [List.pairwise_append] at h;exact ⟨h.1,fun y hy=>h.2.2 y hy x (by simp)⟩
theorem zFa {w:World} {n0:Nat} {e:TypeId} {size:Nat} {v:Value} {n:Nat} {xs:List Value} {k:Nat} (h:w.ownsRow n0 e size v n xs) (hk:v.ownBlock=some k):∃cs,w.heap[k]? = some (.cells cs e (0,0)):=by
 rcases h.2 with ⟨rfl,_⟩|⟨g,cap,cur,rfl,_,hg,_⟩
 ·cases hk
 ·have:g=k:=by simpa [Value.ownBlock] using hk
  subst this;exact ⟨cur,hg⟩
theorem qU {w w':World} {n0 m0:Nat} {e e':TypeId} {size size':Nat} {v u:Value} {n m:Nat} {xs ys:List Value} (h:w.ownsRow n0 e size v n xs) (hu:w.ownsRow m0 e' size' u m ys) (hne:e≠e') (hg:w.grownBy w' u.ownBlock):w'.ownsRow n0 e size v n xs:=by
 refine h.kept hg ?_
 rcases hv:v.ownBlock with _|k
 ·exact Or.inl rfl
 ·right;intro e2;obtain ⟨cs,h1⟩:=zFa h hv;obtain ⟨cs',h2⟩:=zFa hu e2.symm;rw [h1] at h2;injection h2 with h2
  injection h2 with _ h2
  exact hne h2
theorem zDX {N:Nat} {w w4:World} {o:List Fx} {x:Fx} {ts:List ByteArray} {g cap go cp:Nat} (h:uW N w (.slice (some ⟨go,0,none⟩) (o.length+1) cp) (o++[x]))
  (hown:w4.ownsRow N 9 1 (.slice (some ⟨g,0,none⟩) (x.txt.length+ts.length) cap) (x.txt.length+ts.length) (x.txt.map Value.string++ts.map Value.string))
  (hg:w.grownBy w4 x.sl.ownBlock) (hat:x.sl.ownBlock=some g∨g=w.heap.size) :
  w4.cell? ⟨go,o.length * 2+1,none⟩=some x.sl/\w4.frozen? ⟨go,o.length * 2+1,none⟩=false /\
   uW N (w4.setCell ⟨go,o.length * 2+1,none⟩ (.slice (some ⟨g,0,none⟩) (x.txt.length+ts.length) cap)) (.slice (some ⟨go,0,none⟩) (o.length+1) cp) (o++[⟨x.name,some ⟨g,0,none⟩,cap,x.txt++ts⟩]):=by
 obtain ⟨⟨hrow,htx⟩,hap⟩:=h;obtain ⟨hap1,hap2⟩:=zGa hap;have hx:=htx x (by simp);have hrow4:w4.ownsRow N 45 2 (sc (some (aa go 0)) (o.length+1) cp) (o++[x]).length (yN (o++[x])):=qU hrow hx (by decide) hg;have hlen:(o++[x]).length=o.length+1:=by simp
 rw [hlen] at hrow4;have hget:=qE (o++[x]) o.length (by simp);simp only [List.getElem_concat_length] at hget;have c1:w4.cell? (aa go (o.length * 2+1))=some x.sl:=by rw [hrow4.cellAt _ (by omega)];exact hget.2
 refine ⟨c1,hrow4.frozenAt _,⟨?_,?_⟩,?_⟩
 ·have hst:=hrow4.stored (o.length * 2+1) (sc (some (aa g 0)) (x.txt.length+ts.length) cap)
  have e1:(yN (o++[x])).set (o.length * 2+1) (sc (some (aa g 0)) (x.txt.length+ts.length) cap)=yN (o++[⟨x.name,some (aa g 0),cap,x.txt++ts⟩]):=by
   rw [mE,mE,List.set_append_right _ _ (by rw [nO];omega),nO];simp [yN,yF,Fx.sl]
  rw [e1] at hst;rw [List.length_append];exact hst.1
 ·intro y hy;have hset:w4.grownBy (w4.setCell (aa go (o.length * 2+1)) (sc (some (aa g 0)) (x.txt.length+ts.length) cap)) (Value.slice (some (aa go 0)) (o.length+1) cp).ownBlock:=zZ w4 go _ _;rw [List.mem_append,List.mem_singleton] at hy
  rcases hy with hy|rfl
  ·have hy0:=htx y (by simp [hy]);have hy4:w4.ownsRow N 9 1 y.sl y.txt.length (y.txt.map Value.string):=hy0.kept hg (hap2 y hy);exact qU hy4 hrow4 (by decide) hset
  ·have:w4.ownsRow N 9 1 (sc (some (aa g 0)) (x.txt.length+ts.length) cap) (x.txt++ts).length ((x.txt++ts).map Value.string):=by
    rw [List.length_append,List.map_append];exact hown
   show World.ownsRow _ N 9 1 (sc (some (aa g 0)) (x.txt++ts).length cap) (x.txt++ts).length ((x.txt++ts).map Value.string)
   rw [List.length_append] at this ⊢;exact qU this hrow4 (by decide) hset
 ·refine zBO hap1 fun y hy=>?_
  have hy0:=htx y (by simp [hy]);show y.sl.ownBlock=none∨y.sl.ownBlock≠some g
  rcases hat with hat|hat
  ·rw [<-hat];exact hap2 y hy
  ·rcases hb:y.sl.ownBlock with _|k
   ·exact Or.inl rfl
   ·right;have:=(World.ownsRow.lt hy0 k hb).2;intro e;simp at e;omega
end
section
open Go.RowKit Go.Sort Go.Lib
theorem zLT {w:World} {b off:Nat} {d:List Fx} (h:kL w b off d):∀j u,(yN d)[j]? = some u->w.cell? ⟨b,off+j,none⟩=some u:=by
 intro j u hj;have hjl:=(List.getElem?_eq_some_iff.1 hj).1;rw [nO] at hjl;obtain ⟨c0,c1⟩:=h (j / 2) (by omega);obtain ⟨g0,g1⟩:=qE d (j / 2) (by omega)
 rcases Nat.mod_two_eq_zero_or_one j with h2|h2
 ·have e:j / 2 * 2=j:=by omega
  rw [e] at c0 g0;rw [g0] at hj;rw [c0];exact hj
 ·have e:j / 2 * 2+1=j:=by omega
  rw [show off+j / 2 * 2+1=off+j by omega] at c1;rw [e] at g1;rw [g1] at hj;rw [c1];exact hj
theorem zHZ (v:Value) (d:List Fx) (w:World) (hv:qZ w v d) (hs:d.length * 40<=140737488355328) :
  Calls Tryz.prog 185 #[v] w fun e w'=>∃u,e=.returned u/\w'.ownsRow w.heap.size 45 2 u d.length (yN d)/\Below w.heap.size w w':=by
 obtain ⟨i0,hi,hz0,hz1,hz2⟩:=info_parts Tryz.infoFld;obtain ⟨p,cap,rfl,hd,_⟩:=hv;have q22:∀(w:World) (a:Option Addr) (n c n' c':Nat),(binOp .eql 37 (sc a n c) (sc none n' c')).run Tryz.prog w=.ok (.bool a.isNone) w:=fun w a n c n' c'=>Lib.run_eql_slice_nil w _ _ a n c n' c' Tryz.underlying37
 have HD:=hid hd;clear hd
 cases p with
 | none =>
  have h0:d=[]:=by
   rcases HD.out with h|⟨b,off,h,_⟩
   ·exact h
   ·cases h
  subst h0;go_enter Tryz.func185,Tryz.ntmps185;go_wp2_with fail;go_ret;exact ⟨_,rfl,World.ownsRow_nil _ _ _ _,Below.refl _ _⟩
 | some a =>
  have hcells:∀j u,(yN d)[j]? = some u->(w.alloc (.cells #[] 45)).cell? (a.add j)=some u:=by
   rcases HD.out with h|⟨b,off,h,hx⟩
   ·subst h;intro j u hj;simp [yN] at hj
   ·intro j u hj;obtain rfl:a=(aa b off):=by simpa using h
    rw [addr_add];have:=zLT hx j u hj;rw [World.cell?_alloc_lt _ _ (aa b (off+j)) (zJ this)];exact this
  have HC:=hid hcells;clear hcells;go_enter Tryz.func185,Tryz.ntmps185;go_wp2_with (at_builtin;refine wpList_append_own _ rfl _ _ 37 rfl w.heap.size 45 i0 (.agg #[tq ⟨#[]⟩,sc none 0 0]) 2 40 Tryz.underlying37 hi hz0 hz1 hz2 rfl (by decide) _ _ _ rfl (World.ownsRow_made w #[] 0 (Nat.le_refl _) (Nat.zero_le _) (by simp)) a d.length cap (yN d) rfl ?c0 ?c1 ?c2 ?c3 ?c4 ?c5 ?_)
  case c0=>exact nO d
  case c1=>exact HC.out
  case c2=>exact tS d
  case c3=>unfold maxLen;omega
  case c4=>omega
  case c5=>simp
  intro v' w1 hown hgrow hnil;have hb1:Below w.heap.size w w1:=((Below.refl _ w).alloc (Nat.le_refl _) _).grown hgrow (by simp) (by intro k hk;simp [Value.ownBlock] at hk;omega);have HO:Hid (w1.ownsRow w.heap.size 45 2 v' d.length (yN d)):=hid (by simpa using hown);clear hown hgrow hnil;go_wp2_with fail;go_ret;exact ⟨_,rfl,HO.out,hb1⟩
theorem zKH (l:List Fx) (t:Nat) (h:t<l.length * 2):(l.flatMap yF)[t]? = some (yF (l[t / 2]!))[t % 2]!:=by
 induction l generalizing t with
 | nil=>simp at h
 | cons x l ih =>
  rw [List.flatMap_cons]
  by_cases h2:t<2
  ·rcases (show t=0∨t=1 by omega) with rfl|rfl<;>simp [yF]
  ·obtain ⟨u,rfl⟩:∃u,t=u+2:=⟨t-2,by omega⟩;have hl:(yF x).length=2:=rfl;rw [List.getElem?_append_right (by omega),hl,show u+2-2=u by omega,ih u (by simp at h;omega),show (u+2) / 2=u / 2+1 by omega,show (u+2) % 2=u % 2 by omega];simp
theorem zCM {w:World} {g:Nat} {cur:Array Value} {e:TypeId} (d:Array Fx) (hheap:w.heap[g]? = some (.cells cur e (0,0))) (htake:cur.toList.take (d.size * 2)=yN d.toList):HoldsK yF 2 w g 0 d:=by
 intro j hj;rw [size_flatK] at hj;have hg:=zKH d.toList j (by simpa using hj);have h1:(cur.toList.take (d.size * 2))[j]? = some (yF (d.toList[j / 2]!))[j % 2]!:=by rw [htake];exact hg
 rw [List.getElem?_take_of_lt hj] at h1;rw [get_flatK _ _ _ _ hj];constructor
 ·simp only [World.cell?,hheap,Nat.zero_add]
  have he:d.toList[j / 2]! = d[j / 2]!:=by
   rw [getElem!_pos d (j / 2) (by omega),getElem!_pos d.toList (j / 2) (by simp;omega)];simp
  rw [<-Array.getElem?_toList,h1,he];rfl
 ·simp [World.frozen?,hheap]
theorem zA5 {B:Nat} {w0 w:World} (h:Below B w0 w) (hB:B<=w.heap.size) (blk off n:Nat) (d:Array Fx) (os:Array Obj) (hb:B<=blk):Below B w0 (sortWorldK yF 2 w blk off n d os):=by
 refine h.trans ⟨rfl,rfl,rfl,?_,?_⟩
 ·simp [sortWorldK,putRowK]
 ·intro k hk;have hks:k<w.heap.size:=by omega
  simp only [sortWorldK,Sort.grow,putRowK,putRow,mapBlock,Sort.ahead];rw [Array.getElem?_append_left (by simpa using hks),Array.getElem?_modify,if_neg (by omega)]
theorem zJT {w w':World} {g:Nat} {d:Array Fx} (hH:HoldsK yF 2 w g 0 d) (hg:g<w.heap.size) (h:zKZ w g 0 d w'):∃d':List Fx,d'.length=d.size/\kL w' g 0 d'/\d'.Perm d.toList/\(d'.Pairwise fun x y=>ltOf wP y x=false)/\(∀c,d'.filter (fun x=>decide (x.name=c))=d.toList.filter fun x=>decide (x.name=c)):=by
 obtain ⟨e,n,os,hp,hs,hst,rfl⟩:=h;have hsz:e.size=d.size:=hp.1
 have hH2:HoldsK yF 2 (sortWorldK yF 2 w g 0 n e os) g 0 e:=by
  exact holdsK_grow yF 2 _ os g 0 _ (by simpa [putRowK] using hg) (holdsK_putRowK yF 2 (Sort.ahead w n) g 0 _ _ (holdsK_ahead yF 2 w n g 0 _ hH) hsz)
 refine ⟨e.toList,by simpa using hsz,fun i hi=>?_,?_,?_,hst⟩
 ·have hi':i<e.size:=by simpa using hi
  have k0:=(hH2.cell (i:=i) (c:=0) hi' (by simp)).1;have k1:=(hH2.cell (i:=i) (c:=1) hi' (by simp)).1;have he:e[i]! = e.toList[i]:=by rw [getElem!_pos e i hi'];simp
  rw [he] at k0 k1;exact ⟨by simpa [yF] using k0,by simpa [yF,Nat.add_assoc] using k1⟩
 ·have:=hp.2.2;have e1:e.extract 0 d.size=e:=by rw [<-hsz];simp
  have e2:d.extract 0 d.size=d:=by simp
  rw [e1,e2] at this;exact this
 ·rw [List.pairwise_iff_getElem];intro i j hi hj hij;have hi':i<e.size:=by simpa using hi
  have hj':j<e.size:=by simpa using hj
  have:=hs i j (Nat.zero_le _) hij (by omega);rw [getElem!_pos e i hi',getElem!_pos e j hj'] at this
  simpa using this
end
section
open Go.Sort
set_option linter.unusedSectionVars false
variable {α:Type} [Inhabited α] {κ:Type} [DecidableEq κ]
def Way (K:α->κ) (d dk:Array α):Prop:=PermIn 0 d.size d dk/\nB K d dk
theorem Way.refl (K:α->κ) (d:Array α):Way K d d:=⟨permIn_refl _ _ _,nB.refl K d⟩
theorem Way.size {K:α->κ} {d dk:Array α} (h:Way K d dk):dk.size=d.size:=h.1.1
theorem Way.step {K:α->κ} {d dk dl:Array α} {a b:Nat} (h:Way K d dk) (p:PermIn a b dk dl) (hb:b<=d.size) (s:nB K dk dl):Way K d dl:=by
 have e:dk.size=d.size:=h.1.1;exact ⟨permIn_trans _ _ _ _ _ h.1 (permIn_mono _ _ _ _ _ _ (Nat.zero_le _) hb (Nat.le_of_eq e.symm) p),h.2.trans s⟩
def zAO (lt:α->α->Bool) (c q:Nat) (d:Array α):Prop:=∀t,t<q->SortedIn lt (t * c) (t * c+c) d
def uO (lt:α->α->Bool) (c a n:Nat) (d:Array α):Prop:=∀t,SortedIn lt (a+t * c) (min (a+t * c+c) n) d
theorem pW {lt:α->α->Bool} {a b x y:Nat} {d d':Array α} (p:PermIn a b d d') (h:SortedIn lt x y d) (hd:y<=a∨b<=x):SortedIn lt x y d':=fun i j h1 h2 h3=>by
 rw [p.2.1 i (by omega),p.2.1 j (by omega)];exact h i j h1 h2 h3
theorem kW {lt:α->α->Bool} {a b x y:Nat} {d:Array α} (h:SortedIn lt a b d) (h1:a<=x) (h2:y<=b):SortedIn lt x y d:=fun i j k1 k2 k3=>h i j (by omega) k2 (by omega)
theorem zBD (lt:α->α->Bool) (c:Nat) (d:Array α):zAO lt c 0 d:=fun _ ht=>absurd ht (Nat.not_lt_zero _)
theorem zGs {t q:Nat} (c:Nat) (h:t<q):t * c+c<=q * c:=by
 have:=Nat.mul_le_mul_right c (show t+1<=q from h)
 rwa [Nat.add_mul,Nat.one_mul] at this
theorem zAO.step {lt:α->α->Bool} {c q:Nat} {d d':Array α} (h:zAO lt c q d) (p:PermIn (q * c) (q * c+c) d d') (s:SortedIn lt (q * c) (q * c+c) d'):zAO lt c (q+1) d':=fun t ht=>by
 by_cases e:t<q
 ·exact pW p (h t e) (Or.inl (zGs c e))
 ·obtain rfl:t=q:=by omega
  exact s
theorem zAO.last {lt:α->α->Bool} {c q n:Nat} {d d':Array α} (h:zAO lt c q d) (hn:n<q * c+c) (p:PermIn (q * c) n d d') (s:SortedIn lt (q * c) n d'):uO lt c 0 n d':=fun t=>by
 rw [Nat.zero_add]
 rcases Nat.lt_trichotomy t q with e|e|e
 ·exact kW (pW p (h t e) (Or.inl (zGs c e))) (Nat.le_refl _) (by omega)
 ·subst e;exact kW s (Nat.le_refl _) (by omega)
 ·have:=zGs c e;intro i j h1 h2 h3;omega
theorem uO.first {lt:α->α->Bool} {c a n:Nat} {d:Array α} (h:uO lt c a n d) (hn:a+c<=n):SortedIn lt a (a+c) d:=by
 have:=h 0;rw [Nat.zero_mul,Nat.add_zero,Nat.min_eq_left hn] at this;exact this
theorem uO.second {lt:α->α->Bool} {c a n e:Nat} {d:Array α} (h:uO lt c a n d) (h1:e<=a+c+c) (h2:e<=n):SortedIn lt (a+c) e d:=by
 have:=h 1;rw [Nat.one_mul] at this;exact kW this (Nat.le_refl _) (by omega)
theorem uO.short {lt:α->α->Bool} {c a n:Nat} {d:Array α} (h:uO lt c a n d) (hn:n<=a+c):SortedIn lt a n d:=by
 have:=h 0;rw [Nat.zero_mul,Nat.add_zero,Nat.min_eq_right hn] at this;exact this
theorem uO.step {lt:α->α->Bool} {c a n:Nat} {d d':Array α} (h:uO lt c a n d) (p:PermIn a (a+2 * c) d d'):uO lt c (a+2 * c) n d':=fun t=>by
 have:=h (t+2);have e:a+(t+2) * c=a+2 * c+t * c:=by rw [Nat.add_mul];omega
 rw [e] at this;exact pW p this (Or.inr (by omega))
theorem zJU {lt:α->α->Bool} {K:α->κ} (hS:SWO lt) (hK:∀x y,lt x y=true->K x≠K y) {a s m e b mid:Nat} {d d1:Array α} (h:Rot s m e d d1) (has:a<=s) (hsm:s<=m) (hme:m<=e) (heb:e<=b) (hb:b<=d.size) (hmid:s+(e-m)=mid)
  (hL:SortedIn lt a m d) (hR:SortedIn lt m b d) (hlow:a<s->e<b->lt d[e]! d[s-1]! = false) (hhigh:s<m->m<e->lt d[e-1]! d[s]! = true) :
  SortedIn lt a s d1/\SortedIn lt s mid d1/\(¬ (a<s/\s<mid)->Mrg lt K a mid d1 d1) /\
   (∀d2,Mrg lt K a mid d1 d2->SortedIn lt mid e d2/\SortedIn lt e b d2/\(¬ (mid<e/\e<b)->Mrg lt K mid b d2 d2)/\∀d3,Mrg lt K mid b d2 d3->Mrg lt K a b d d3):=by
 subst hmid;obtain ⟨_,_,s1,s2,s3,s4,_⟩:=h.merge (K:=K) hS hK has hsm hme heb hb hL hR hlow hhigh;refine ⟨s1,s2,fun hn=>Mrg.none ?_,fun d2 m2=>?_⟩
 ·by_cases e1:a<s
  ·rw [show s+(e-m)=s by omega];exact s1
  ·rw [show a=s by omega];exact s2
 ·have t3:=pW m2.1 s3 (Or.inr (Nat.le_refl _));have t4:=pW m2.1 s4 (Or.inr (by omega));refine ⟨t3,t4,fun hn=>Mrg.none ?_,fun d3 m3=>Mrg.of_rot hS hK h has hsm hme heb hb hL hR hlow hhigh m2 m3⟩
  by_cases e1:s+(e-m)<e
  ·rw [show b=e by omega];exact t3
  ·rw [show s+(e-m)=e by omega];exact t4
end
section
open Go.RowKit Go.Sort Go.Lib Go.Shelf
def zAN (a b n:Nat) (d dk:Array Fx):Prop :=
 dk.size=d.size/\(∀t,t<n->dk[a+t]! = d[b+t]!)/\(∀t,t<n->dk[b+t]! = d[a+t]!)/\∀i,(i<a∨a+n<=i)->(i<b∨b+n<=i)->dk[i]! = d[i]!
theorem zAN.zero (a b:Nat) (d:Array Fx):zAN a b 0 d d:=⟨rfl,fun t ht=>by omega,fun t ht=>by omega,fun _ _ _=>rfl⟩
theorem zAN.step {a b n:Nat} {d dk:Array Fx} (h:zAN a b n d dk) (hab:a+n<b) (hb:b+n<d.size):zAN a b (n+1) d (swp dk (a+n) (b+n)):=by
 obtain ⟨h1,h2,h3,h4⟩:=h;refine ⟨by rw [size_swp,h1],fun t ht=>?_,fun t ht=>?_,fun i hi hj=>?_⟩
 ·by_cases e:t=n
  ·subst e;rw [swp_left _ _ _ (by omega) (by omega)];exact h4 _ (by omega) (by omega)
  ·rw [swp_other _ _ _ _ (by omega) (by omega)];exact h2 t (by omega)
 ·by_cases e:t=n
  ·subst e;rw [swp_right _ _ _ (by omega)];exact h4 _ (by omega) (by omega)
  ·rw [swp_other _ _ _ _ (by omega) (by omega)];exact h3 t (by omega)
 ·rw [swp_other _ _ _ _ (by omega) (by omega)];exact h4 _ (by omega) (by omega)
theorem sX {w0 W:World} {blk off:Nat} {d0 dk:Array Fx} (h:SWK yF 2 w0 blk off dk W) (R:RowK yF 2 w0 blk off d0) (hs:dk.size=d0.size) (i:Nat) (hi:i<dk.size) :
  W.cell? ⟨blk,off+i * 2,none⟩=some (.string dk[i]!.name)/\W.frozen? ⟨blk,off+i * 2,none⟩=false/\W.cell? ⟨blk,off+i * 2+1,none⟩=some dk[i]!.sl/\W.frozen? ⟨blk,off+i * 2+1,none⟩=false:=by
 have H:=h.holds R.hblk R.hH hs;have e0:=H (i * 2) (by rw [size_flatK];omega);have e1:=H (i * 2+1) (by rw [size_flatK];omega);rw [get_flatK _ _ _ _ (by omega)] at e0 e1;rw [show i * 2 / 2=i by omega,show i * 2 % 2=0 by omega] at e0;rw [show (i * 2+1) / 2=i by omega,show (i * 2+1) % 2=1 by omega] at e1;exact ⟨e0.1,e0.2,e1.1,e1.2⟩
theorem kR {w0 W:World} {blk off:Nat} {d0 dk:Array Fx} (h:SWK yF 2 w0 blk off dk W) (R:RowK yF 2 w0 blk off d0) (i j:Nat) (hi:i<dk.size) (hj:j<dk.size) :
  SWK yF 2 w0 blk off (swp dk i j) ((((W.drew.setCell ⟨blk,off+i * 2,none⟩ (.string dk[j]!.name)).setCell ⟨blk,off+i * 2+1,none⟩ dk[j]!.sl).setCell ⟨blk,off+j * 2,none⟩ (.string dk[i]!.name)).setCell ⟨blk,off+j * 2+1,none⟩ dk[i]!.sl) :=
 h.swapped R i j hi hj
theorem bY (blk off cap a b n:Nat) (fv:Value) (d0 d:Array Fx) (w0 w:World) (R:RowK yF 2 w0 blk off d0) (hs:d0.size=d.size) (S:SWK yF 2 w0 blk off d w) (hab:a+n<=b) (hb:b+n<=d.size) (hsz:d.size<2305843009213693952) :
  Calls Tryz.prog 241 #[.slice (some ⟨blk,off,none⟩) d.size cap,.int .i64 a,.int .i64 b,.int .i64 n,fv] w fun e w' =>
   e=.returned (.tuple #[])/\∃dk,SWK yF 2 w0 blk off dk w'/\zAN a b n d dk:=by
 have mixed:=Tryz.mixed;have S0:Aside (SWK yF 2 w0 blk off d w):=S;have RR:Aside (RowK yF 2 w0 blk off d0):=R;clear S R;go_enter Tryz.func241,Tryz.ntmps241;go_wp2_with fail
 go_loopg [10] n (fun kx s8 wr=>∃(i:Nat) (dk:Array Fx),s8=ii i/\i<=n/\n-i<=kx/\Aside (zAN a b i d dk)/\Aside (SWK yF 2 w0 blk off dk wr))
 case atStart=>exact ⟨0,d,rfl,by omega,by omega,zAN.zero a b d,S0⟩
 case round =>
  clear S0;obtain ⟨i,dk,rfl,hi,hkx,HS,S1⟩:=hrel
  by_cases hlt:i<n
  ·have hltz:(i:Int)<(n:Int):=by omega
   have hds:dk.size=d.size:=HS.out.1;go_wp2_with fail;have ea44:((a:Int)+(i:Int)).toNat=a+i:=by omega
   have pa44:(0:Int)<=(a:Int)+(i:Int):=by omega
   have ba44:(a:Int)+(i:Int)<(d.size:Int):=by omega
   have ra44:IntKind.i64.wrap ((a:Int)+(i:Int))=(a:Int)+(i:Int):=by rw [IntKind.wrap_i64];omega
   have ec44:((b:Int)+(i:Int)).toNat=b+i:=by omega
   have pc44:(0:Int)<=(b:Int)+(i:Int):=by omega
   have bc44:(b:Int)+(i:Int)<(d.size:Int):=by omega
   have rc44:IntKind.i64.wrap ((b:Int)+(i:Int))=(b:Int)+(i:Int):=by rw [IntKind.wrap_i64];omega
   obtain ⟨a0,a1,a2,a3⟩:=sX S1.out RR.out (by omega) (a+i) (by omega);obtain ⟨b0,b1,b2,b3⟩:=sX S1.out RR.out (by omega) (b+i) (by omega);have S2:Aside _:=kR S1.out RR.out (a+i) (b+i) (by omega) (by omega)
   generalize dk[a+i]! = x at a0 a2 S2
   generalize dk[b+i]! = y at b0 b2 S2
   unfold Fx.sl at a2 b2 S2;obtain ⟨p,hp⟩:∃p,off+(a+i) * 2=p:=⟨_,rfl⟩;obtain ⟨q,hq⟩:∃q,off+(b+i) * 2=q:=⟨_,rfl⟩;have n1:¬ p=q:=by omega
   have n2:¬ q=p:=by omega
   have n3:¬ p+1=q:=by omega
   have n4:¬ q=p+1:=by omega
   have n5:¬ p=q+1:=by omega
   have n6:¬ q+1=p:=by omega
   rw [hp] at a0 a1 a2 a3 S2;rw [hq] at b0 b1 b2 b3 S2;clear S1;go_wp2_with fail
   go_big_region_o
   clear a0 a1 a2 a3 b0 b1 b2 b3;go_wp2_with fail;go_roundg (n-(i+1))
   case measure=>omega
   case rel=>exact ⟨i+1,swp dk (a+i) (b+i),by go_num,by omega,by omega,HS.out.step (by omega) (by omega),S2⟩
  ·have hltz:¬ (i:Int)<(n:Int):=by omega
   obtain rfl:i=n:=by omega
   go_wp2_with fail
   go_end0
   exact ⟨rfl,dk,S1.out,HS.out⟩
theorem zGm (blk off cap a m b:Nat) (fv:Value) (d0 d:Array Fx) (w0 w:World) (R:RowK yF 2 w0 blk off d0) (hs:d0.size=d.size) (S:SWK yF 2 w0 blk off d w) (ham:a<m) (hmb:m<b) (hb:b<=d.size) (hsz:d.size<2305843009213693952) :
  Calls Tryz.prog 239 #[.slice (some ⟨blk,off,none⟩) d.size cap,.int .i64 a,.int .i64 m,.int .i64 b,fv] w fun e w' =>
   e=.returned (.tuple #[])/\∃dk,SWK yF 2 w0 blk off dk w'/\Rot a m b d dk:=by
 have S0:Aside (SWK yF 2 w0 blk off d w):=S;have RR:Aside (RowK yF 2 w0 blk off d0):=R;clear S R;have ei:IntKind.i64.wrap ((m:Int)-(a:Int))=((m-a:Nat):Int):=by rw [IntKind.wrap_i64];omega
 have ej:IntKind.i64.wrap ((b:Int)-(m:Int))=((b-m:Nat):Int):=by rw [IntKind.wrap_i64];omega
 go_enter Tryz.func239,Tryz.ntmps239
 go_wp2_with fail
 go_loopg [10,11] (b-a) (fun kx vi vj wr=>∃(i j:Nat) (dk:Array Fx),vi=ii i/\vj=ii j/\0<i/\0<j/\a+i<=m/\m+j<=b/\i+j<=kx/\dk.size=d.size/\Aside (∀d',Rot (m-i) m (m+j) dk d'->Rot a m b d d')/\Aside (SWK yF 2 w0 blk off dk wr))
 case atStart=>exact ⟨m-a,b-m,d,rfl,rfl,by omega,by omega,by omega,by omega,by omega,rfl,fun d' h=>by rw [show m-(m-a)=a by omega,show m+(b-m)=b by omega] at h;exact h,S0⟩
 case round =>
  clear S0;obtain ⟨i,j,dk,rfl,rfl,hi,hj,hai,hjb,hkx,hds,HR,S1⟩:=hrel;have emi:IntKind.i64.wrap ((m:Int)-(i:Int))=((m-i:Nat):Int):=by rw [IntKind.wrap_i64];omega
  rcases Nat.lt_trichotomy i j with hij|hij|hij
  ·have hc:((i:Int)==(j:Int))=false:=beq_eq_false_iff_ne.2 (by omega);have hne:¬ (i:Int)=(j:Int):=by omega
   have hg:¬ (j:Int)<(i:Int):=by omega
   have e2:IntKind.i64.wrap ((m:Int)+(j:Int))=(m:Int)+(j:Int):=by rw [IntKind.wrap_i64];omega
   have e3:IntKind.i64.wrap ((m:Int)+(j:Int)-(i:Int))=((m+j-i:Nat):Int):=by rw [IntKind.wrap_i64];omega
   have e4:IntKind.i64.wrap ((j:Int)-(i:Int))=((j-i:Nat):Int):=by rw [IntKind.wrap_i64];omega
   have hc:=bY blk off cap (m-i) (m+j-i) i fv d0 dk w0 wr RR.out (by omega) S1.out (by omega) (by omega) (by omega);rw [hds] at hc;have HC:=hid hc;clear hc S1;go_wp2_with (first|(go_at_call 241;refine HC.out.mono ?_;rintro e w1 ⟨rfl,dl,hsl,hsw⟩;have HSL:Aside _:=hsl;have HSW:Aside _:=hsw;clear hsl hsw));go_roundg j
   case measure=>omega
   case rel =>
    refine ⟨i,j-i,dl,rfl,rfl,hi,by omega,hai,by omega,by omega,HSW.out.1.trans hds,fun d' h=>HR.out d' ?_,HSL⟩;obtain ⟨k1,k2,k3,k4⟩:=HSW.out;refine Rot.right (i:=i) (dk:=dl) (by omega) (by omega) (by omega) (by omega) k1 k2 (fun t ht=>?_) (fun x h1 h2=>k4 x (by omega) (by omega)) (by rw [show m+j-i=m+(j-i) by omega];exact h);exact k3 t ht
  ·subst hij;have hc:=bY blk off cap (m-i) m i fv d0 dk w0 wr RR.out (by omega) S1.out (by omega) (by omega) (by omega);rw [hds] at hc;have HC:=hid hc;clear hc S1;go_wp2_with (first|(go_at_call 241;refine HC.out.mono ?_;rintro e w1 ⟨rfl,dl,hsl,hsw⟩;have HSL:Aside _:=hsl;have HSW:Aside _:=hsw;clear hsl hsw))
   go_end0
   obtain ⟨k1,k2,k3,k4⟩:=HSW.out;exact ⟨rfl,dl,HSL.out,HR.out dl (Rot.even (i:=i) (by omega) (by omega) (by omega) (by omega) k1 k2 k3 k4)⟩
  ·have hc0:((i:Int)==(j:Int))=false:=beq_eq_false_iff_ne.2 (by omega);have hne:¬ (i:Int)=(j:Int):=by omega
   have hg:(j:Int)<(i:Int):=by omega
   have e4:IntKind.i64.wrap ((i:Int)-(j:Int))=((i-j:Nat):Int):=by rw [IntKind.wrap_i64];omega
   have hc:=bY blk off cap (m-i) m j fv d0 dk w0 wr RR.out (by omega) S1.out (by omega) (by omega) (by omega);rw [hds] at hc;have HC:=hid hc;clear hc S1;go_wp2_with (first|(go_at_call 241;refine HC.out.mono ?_;rintro e w1 ⟨rfl,dl,hsl,hsw⟩;have HSL:Aside _:=hsl;have HSW:Aside _:=hsw;clear hsl hsw));go_roundg i
   case measure=>omega
   case rel =>
    refine ⟨i-j,j,dl,rfl,rfl,by omega,hj,by omega,hjb,by omega,HSW.out.1.trans hds,fun d' h=>HR.out d' ?_,HSL⟩;obtain ⟨k1,k2,k3,k4⟩:=HSW.out;exact Rot.left (j:=j) (dk:=dl) (by omega) (by omega) (by omega) (by omega) k1 k2 k3 (fun x h1 h2=>k4 x (by omega) (by omega)) (by rw [show m-i+j=m-(i-j) by omega];exact h)
end
section
open Go.RowKit Go.Sort Go.Lib Go.Shelf
theorem pA {w0 W:World} {blk off:Nat} {d0 dk:Array Fx} (h:SWK yF 2 w0 blk off dk W) (R:RowK yF 2 w0 blk off d0) (hs:dk.size=d0.size) (i:Nat) (hi:i<dk.size) (n:Nat) (os:Array Obj) :
  (grow (W.drewN n) os).cell? ⟨blk,off+i * 2,none⟩=some (.string dk[i]!.name)/\(grow (W.drewN n) os).cell? ⟨blk,off+i * 2+1,none⟩=some (.slice dk[i]!.p dk[i]!.txt.length dk[i]!.cap):=by
 have:=sX (h.grown n os) R hs i hi;exact ⟨this.1,this.2.2.1⟩
theorem cW (x y:Fx) (W:World) (n:Nat) (os:Array Obj) :
  Calls Tryz.prog 187 #[.agg #[.string x.name,.slice x.p x.txt.length x.cap],.agg #[.string y.name,.slice y.p y.txt.length y.cap]] (grow (W.drewN n) os) fun e w'=>e=.returned (.int .i64 (wP x y))/\∃q os',w'=grow ((grow (W.drewN n) os).drewN q) os':=zBu x y _
theorem zBS {x y:Fx} (h:ltOf wP x y=true):wP x y<0:=of_decide_eq_true h
theorem bL {x y:Fx} (h:ltOf wP x y=false):¬ wP x y<0:=of_decide_eq_false h
theorem zLA (blk off cap a m b:Nat) (d0 d:Array Fx) (w0 w:World) (R:RowK yF 2 w0 blk off d0) (hs:d0.size=d.size) (S:SWK yF 2 w0 blk off d w) (hm:m=a+1) (hmb:m<b) (hb:b<=d.size) (hsz:d.size<2305843009213693952) (hR:SortedIn (ltOf wP) m b d) :
  Calls Tryz.prog 232 #[.slice (some ⟨blk,off,none⟩) d.size cap,.int .i64 a,.int .i64 m,.int .i64 b,.func (.func 187) #[] #[]] w fun e w' =>
   e=.returned (.tuple #[])/\∃dk,SWK yF 2 w0 blk off dk w'/\Mrg (ltOf wP) Fx.name a b d dk:=by
 have mixed:=Tryz.mixed;have eg:=qJ;have S0:Aside (SWK yF 2 w0 blk off d w):=S;have RR:Aside (RowK yF 2 w0 blk off d0):=R;have HR:=hid hR;have HM:=hid hm;have e0:IntKind.i64.wrap ((m:Int)-(a:Int))=1:=by rw [IntKind.wrap_i64];omega
 have ham:a<m:=by omega
 clear S R hR hm;go_enter Tryz.func232,Tryz.ntmps232;go_wp2_with fail
 go_loopg [10,11] (b-m) (fun kx vi vj wr=>∃(i j:Nat),vi=ii i/\vj=ii j/\m<=i/\i<=j/\j<=b/\j-i<=kx/\Hid (m<i->ltOf wP d[i-1]! d[a]! = true)/\Hid (j<b->ltOf wP d[j]! d[a]! = false)/\Aside (SWK yF 2 w0 blk off d wr))
 case atStart=>exact ⟨m,b,rfl,rfl,by omega,by omega,by omega,by omega,fun h=>absurd h (Nat.lt_irrefl _),fun h=>absurd h (Nat.lt_irrefl _),S0⟩
 case round =>
  clear S0;obtain ⟨i,j,rfl,rfl,hmi,hij,hjb,hkx,HLO,HHI,S1⟩:=hrel
  by_cases hlt:i<j
  ·have hltz:(i:Int)<(j:Int):=by omega
   obtain ⟨h,hh⟩:∃h,(i+j) / 2=h:=⟨_,rfl⟩;have hz:((i:Int)+(j:Int)) / 2=(h:Int):=by omega
   have h1:i<=h:=by omega
   have h2:h<j:=by omega
   clear hh;go_wp2_with fail
   cases hL:ltOf wP d[h]! d[a]! with
   | true =>
    have ea:((h:Int)).toNat=h:=by omega
    have pa:(0:Int)<=(h:Int):=by omega
    have ba:(h:Int)<(d.size:Int):=by omega
    have ec:((a:Int)).toNat=a:=by omega
    have pc:(0:Int)<=(a:Int):=by omega
    have bc:(a:Int)<(d.size:Int):=by omega
    have la:=pA S1.out RR.out (by omega) (h) (by omega);have lb:=pA S1.out RR.out (by omega) (a) (by omega);have hv:=zBS hL;have HL:=hid hL;clear hL
    generalize d[h]! = x at la hv
    generalize d[a]! = y at lb hv
    have la0:=fun n os=>(la n os).1
    have la1:=fun n os=>(la n os).2
    have lb0:=fun n os=>(lb n os).1
    have lb1:=fun n os=>(lb n os).2
    clear la lb;have hd:decide (wP x y<0)=true:=decide_eq_true hv;have hc:=cW x y wr;go_wp2_with fail
    go_quiet_grown (first|(go_at_fn 187;refine Calls.grown_of (hc _ _)))
    have S2:Aside (SWK yF 2 w0 blk off d (grow (wr.drewN nq) osq)):=S1.out.grown nq osq;clear la0 la1 lb0 lb1 hc S1
    generalize grow (wr.drewN nq) osq=w2 at S2 ⊢
    clear nq osq;go_wp2_with fail;go_roundg (j-(h+1))
    case measure=>omega
    case rel=>exact ⟨h+1,j,by go_num,rfl,by omega,by omega,hjb,by omega,fun _=>HL.out,HHI,S2⟩
   | false =>
    have ea:((h:Int)).toNat=h:=by omega
    have pa:(0:Int)<=(h:Int):=by omega
    have ba:(h:Int)<(d.size:Int):=by omega
    have ec:((a:Int)).toNat=a:=by omega
    have pc:(0:Int)<=(a:Int):=by omega
    have bc:(a:Int)<(d.size:Int):=by omega
    have la:=pA S1.out RR.out (by omega) (h) (by omega);have lb:=pA S1.out RR.out (by omega) (a) (by omega);have hv:=bL hL;have HL:=hid hL;clear hL
    generalize d[h]! = x at la hv
    generalize d[a]! = y at lb hv
    have la0:=fun n os=>(la n os).1
    have la1:=fun n os=>(la n os).2
    have lb0:=fun n os=>(lb n os).1
    have lb1:=fun n os=>(lb n os).2
    clear la lb;have hd:decide (wP x y<0)=false:=decide_eq_false hv;have hc:=cW x y wr;go_wp2_with fail
    go_quiet_grown (first|(go_at_fn 187;refine Calls.grown_of (hc _ _)))
    have S2:Aside (SWK yF 2 w0 blk off d (grow (wr.drewN nq) osq)):=S1.out.grown nq osq;clear la0 la1 lb0 lb1 hc S1
    generalize grow (wr.drewN nq) osq=w2 at S2 ⊢
    clear nq osq;go_wp2_with fail;go_roundg (h-i)
    case measure=>omega
    case rel=>exact ⟨i,h,rfl,rfl,hmi,h1,by omega,by omega,HLO,fun _=>HL.out,S2⟩
  ·have hltz:¬ (i:Int)<(j:Int):=by omega
   obtain rfl:i=j:=by omega
   have e1:IntKind.i64.wrap ((i:Int)-1)=((i-1:Nat):Int):=by rw [IntKind.wrap_i64];omega
   clear hij hkx hlt;have SA:=S1;go_wp2_with fail
   go_loopg [13] (b-a) (fun kx vk wr=>∃(k:Nat) (dk:Array Fx),vk=ii k/\a<=k/\k<=i-1/\i-1-k<=kx/\dk.size=d.size/\Aside (Rot a (a+1) (k+1) d dk)/\Aside (SWK yF 2 w0 blk off dk wr))
   case atStart=>exact ⟨a,d,rfl,by omega,by omega,by omega,rfl,zFH _ _ _,SA⟩
   case round =>
    clear SA S1;obtain ⟨k,dk,rfl,hak,hki,hkx,hds,HT,S1⟩:=hrel
    by_cases hlt:k<i-1
    ·have hltz2:(k:Int)<((i-1:Nat):Int):=by omega
     go_wp2_with fail
     have ea:((k:Int)).toNat=k:=by omega
     have pa:(0:Int)<=(k:Int):=by omega
     have ba:(k:Int)<(d.size:Int):=by omega
     have ra:IntKind.i64.wrap ((k:Int))=(k:Int):=by rw [IntKind.wrap_i64];omega
     have ec:((k:Int)+1).toNat=k+1:=by omega
     have pc:(0:Int)<=(k:Int)+1:=by omega
     have bc:(k:Int)+1<(d.size:Int):=by omega
     have rc:IntKind.i64.wrap ((k:Int)+1)=(k:Int)+1:=by rw [IntKind.wrap_i64];omega
     obtain ⟨a0,a1,a2,a3⟩:=sX S1.out RR.out (by omega) (k) (by omega);obtain ⟨b0,b1,b2,b3⟩:=sX S1.out RR.out (by omega) (k+1) (by omega);have S2:Aside _:=kR S1.out RR.out (k) (k+1) (by omega) (by omega)
     generalize dk[k]! = x at a0 a2 S2
     generalize dk[k+1]! = y at b0 b2 S2
     unfold Fx.sl at a2 b2 S2;obtain ⟨p,hp⟩:∃p,off+(k) * 2=p:=⟨_,rfl⟩;obtain ⟨q,hq⟩:∃q,off+(k+1) * 2=q:=⟨_,rfl⟩;have n1:¬ p=q:=by omega
     have n2:¬ q=p:=by omega
     have n3:¬ p+1=q:=by omega
     have n4:¬ q=p+1:=by omega
     have n5:¬ p=q+1:=by omega
     have n6:¬ q+1=p:=by omega
     rw [hp] at a0 a1 a2 a3 S2;rw [hq] at b0 b1 b2 b3 S2;clear S1;go_wp2_with fail
     go_big_region_o
     clear a0 a1 a2 a3 b0 b1 b2 b3;go_wp2_with fail;go_roundg (i-1-(k+1))
     case measure=>omega
     case rel=>exact ⟨k+1,swp dk k (k+1),by go_num,by omega,by omega,by omega,by rw [size_swp];exact hds,HT.out.shift_up hak (by omega),S2⟩
    ·have hltz2:¬ (k:Int)<((i-1:Nat):Int):=by omega
     go_wp2_with fail
     (try simp only [Exit.inBlock,Exit.then]);refine bodyPost_ret (results_none rfl _ _ _) rfl ?_
     have hk:k+1=i:=by omega
     have ht:=HT.out;rw [hk] at ht;have hlo:=HLO.out;have hhi:=HHI.out;have hr:=HR.out;rw [HM.out] at hlo hr;exact ⟨rfl,dk,S1.out,Mrg.one_left zMK zD2 ht (by omega) hjb hb hr hlo hhi⟩
theorem zIc (blk off cap a m b:Nat) (d0 d:Array Fx) (w0 w:World) (R:RowK yF 2 w0 blk off d0) (hs:d0.size=d.size) (S:SWK yF 2 w0 blk off d w) (hm:a+1<m) (hmb:b=m+1) (hb:b<=d.size) (hsz:d.size<2305843009213693952) (hL:SortedIn (ltOf wP) a m d) :
  Calls Tryz.prog 232 #[.slice (some ⟨blk,off,none⟩) d.size cap,.int .i64 a,.int .i64 m,.int .i64 b,.func (.func 187) #[] #[]] w fun e w' =>
   e=.returned (.tuple #[])/\∃dk,SWK yF 2 w0 blk off dk w'/\Mrg (ltOf wP) Fx.name a b d dk:=by
 have mixed:=Tryz.mixed;have eg:=qJ;have S0:Aside (SWK yF 2 w0 blk off d w):=S;have RR:Aside (RowK yF 2 w0 blk off d0):=R;have HR:=hid hL;have HM:=hid hmb;have e0:IntKind.i64.wrap ((m:Int)-(a:Int))=((m-a:Nat):Int):=by rw [IntKind.wrap_i64];omega
 have e1:(((m-a:Nat):Int)==1)=false:=beq_eq_false_iff_ne.2 (by omega);have e2:IntKind.i64.wrap ((b:Int)-(m:Int))=1:=by rw [IntKind.wrap_i64];omega
 have hms:m<d.size:=by omega
 clear S R hL hmb;go_enter Tryz.func232,Tryz.ntmps232;go_wp2_with fail
 go_loopg [14,15] (m-a) (fun kx vi vj wr=>∃(i j:Nat),vi=ii i/\vj=ii j/\a<=i/\i<=j/\j<=m/\j-i<=kx/\Hid (a<i->ltOf wP d[m]! d[i-1]! = false)/\Hid (j<m->ltOf wP d[m]! d[j]! = true)/\Aside (SWK yF 2 w0 blk off d wr))
 case atStart=>exact ⟨a,m,rfl,rfl,by omega,by omega,by omega,by omega,fun h=>absurd h (Nat.lt_irrefl _),fun h=>absurd h (Nat.lt_irrefl _),S0⟩
 case round =>
  clear S0;obtain ⟨i,j,rfl,rfl,hmi,hij,hjb,hkx,HLO,HHI,S1⟩:=hrel
  by_cases hlt:i<j
  ·have hltz:(i:Int)<(j:Int):=by omega
   obtain ⟨h,hh⟩:∃h,(i+j) / 2=h:=⟨_,rfl⟩;have hz:((i:Int)+(j:Int)) / 2=(h:Int):=by omega
   have h1:i<=h:=by omega
   have h2:h<j:=by omega
   clear hh;go_wp2_with fail
   cases hL:ltOf wP d[m]! d[h]! with
   | false =>
    have ea:((m:Int)).toNat=m:=by omega
    have pa:(0:Int)<=(m:Int):=by omega
    have ba:(m:Int)<(d.size:Int):=by omega
    have ec:((h:Int)).toNat=h:=by omega
    have pc:(0:Int)<=(h:Int):=by omega
    have bc:(h:Int)<(d.size:Int):=by omega
    have la:=pA S1.out RR.out (by omega) (m) (by omega);have lb:=pA S1.out RR.out (by omega) (h) (by omega);have hv:=bL hL;have HL:=hid hL;clear hL
    generalize d[m]! = x at la hv
    generalize d[h]! = y at lb hv
    have la0:=fun n os=>(la n os).1
    have la1:=fun n os=>(la n os).2
    have lb0:=fun n os=>(lb n os).1
    have lb1:=fun n os=>(lb n os).2
    clear la lb;have hd:decide (wP x y<0)=false:=decide_eq_false hv;have hc:=cW x y wr;go_wp2_with fail
    go_quiet_grown (first|(go_at_fn 187;refine Calls.grown_of (hc _ _)))
    have S2:Aside (SWK yF 2 w0 blk off d (grow (wr.drewN nq) osq)):=S1.out.grown nq osq;clear la0 la1 lb0 lb1 hc S1
    generalize grow (wr.drewN nq) osq=w2 at S2 ⊢
    clear nq osq;go_wp2_with fail;go_roundg (j-(h+1))
    case measure=>omega
    case rel=>exact ⟨h+1,j,by go_num,rfl,by omega,by omega,hjb,by omega,fun _=>HL.out,HHI,S2⟩
   | true =>
    have ea:((m:Int)).toNat=m:=by omega
    have pa:(0:Int)<=(m:Int):=by omega
    have ba:(m:Int)<(d.size:Int):=by omega
    have ec:((h:Int)).toNat=h:=by omega
    have pc:(0:Int)<=(h:Int):=by omega
    have bc:(h:Int)<(d.size:Int):=by omega
    have la:=pA S1.out RR.out (by omega) (m) (by omega);have lb:=pA S1.out RR.out (by omega) (h) (by omega);have hv:=zBS hL;have HL:=hid hL;clear hL
    generalize d[m]! = x at la hv
    generalize d[h]! = y at lb hv
    have la0:=fun n os=>(la n os).1
    have la1:=fun n os=>(la n os).2
    have lb0:=fun n os=>(lb n os).1
    have lb1:=fun n os=>(lb n os).2
    clear la lb;have hd:decide (wP x y<0)=true:=decide_eq_true hv;have hc:=cW x y wr;go_wp2_with fail
    go_quiet_grown (first|(go_at_fn 187;refine Calls.grown_of (hc _ _)))
    have S2:Aside (SWK yF 2 w0 blk off d (grow (wr.drewN nq) osq)):=S1.out.grown nq osq;clear la0 la1 lb0 lb1 hc S1
    generalize grow (wr.drewN nq) osq=w2 at S2 ⊢
    clear nq osq;go_wp2_with fail;go_roundg (h-i)
    case measure=>omega
    case rel=>exact ⟨i,h,rfl,rfl,hmi,h1,by omega,by omega,HLO,fun _=>HL.out,S2⟩
  ·have hltz:¬ (i:Int)<(j:Int):=by omega
   obtain rfl:i=j:=by omega
   clear hij hkx hlt;have SA:=S1;go_wp2_with fail
   go_loopg [17] (m-a) (fun kx vk wr=>∃(k:Nat) (dk:Array Fx),vk=ii k/\i<=k/\k<=m/\k-i<=kx/\dk.size=d.size/\Aside (Rot k m (m+1) d dk)/\Aside (SWK yF 2 w0 blk off dk wr))
   case atStart=>exact ⟨m,d,rfl,by omega,by omega,by omega,rfl,zCb _ _ _,SA⟩
   case round =>
    clear SA S1;obtain ⟨k,dk,rfl,hak,hki,hkx,hds,HT,S1⟩:=hrel
    by_cases hlt:i<k
    ·obtain ⟨kp,rfl⟩:∃kp,k=kp+1:=⟨k-1,by omega⟩;have hltz2:(i:Int)<(kp:Int)+1:=by omega
     go_wp2_with fail
     have ea:((kp:Int)+1).toNat=kp+1:=by omega
     have pa:(0:Int)<=(kp:Int)+1:=by omega
     have ba:(kp:Int)+1<(d.size:Int):=by omega
     have ra:IntKind.i64.wrap ((kp:Int)+1)=(kp:Int)+1:=by rw [IntKind.wrap_i64];omega
     have ec:((kp:Int)).toNat=kp:=by omega
     have pc:(0:Int)<=(kp:Int):=by omega
     have bc:(kp:Int)<(d.size:Int):=by omega
     have rc:IntKind.i64.wrap ((kp:Int))=(kp:Int):=by rw [IntKind.wrap_i64];omega
     obtain ⟨a0,a1,a2,a3⟩:=sX S1.out RR.out (by omega) (kp+1) (by omega);obtain ⟨b0,b1,b2,b3⟩:=sX S1.out RR.out (by omega) (kp) (by omega);have S2:Aside _:=kR S1.out RR.out (kp+1) (kp) (by omega) (by omega)
     generalize dk[kp+1]! = x at a0 a2 S2
     generalize dk[kp]! = y at b0 b2 S2
     unfold Fx.sl at a2 b2 S2;obtain ⟨p,hp⟩:∃p,off+(kp+1) * 2=p:=⟨_,rfl⟩;obtain ⟨q,hq⟩:∃q,off+(kp) * 2=q:=⟨_,rfl⟩;have n1:¬ p=q:=by omega
     have n2:¬ q=p:=by omega
     have n3:¬ p+1=q:=by omega
     have n4:¬ q=p+1:=by omega
     have n5:¬ p=q+1:=by omega
     have n6:¬ q+1=p:=by omega
     rw [hp] at a0 a1 a2 a3 S2;rw [hq] at b0 b1 b2 b3 S2;clear S1;go_wp2_with fail
     go_big_region_o
     clear a0 a1 a2 a3 b0 b1 b2 b3;go_wp2_with fail;go_roundg (kp-i)
     case measure=>omega
     case rel=>exact ⟨kp,swp dk (kp+1) kp,by first|rfl|go_num,by omega,by omega,by omega,by rw [size_swp];exact hds,HT.out.shift_down (by omega) (by omega),S2⟩
    ·have hltz2:¬ (i:Int)<(k:Int):=by omega
     go_wp2_with fail
     (try simp only [Exit.inBlock,Exit.then]);refine bodyPost_ret (results_none rfl _ _ _) rfl ?_
     obtain rfl:k=i:=by omega
     have hlo:=HLO.out;have hhi:=HHI.out;rw [HM.out];exact ⟨rfl,dk,S1.out,Mrg.one_right zMK zD2 HT.out (by omega) (by omega) (by omega) HR.out hlo hhi⟩
end
section
open Go.RowKit Go.Sort Go.Lib Go.Shelf
def zKt (blk off cap:Nat) (d0:Array Fx) (w0:World) (a m b:Nat):Prop :=
 ∀(d:Array Fx) (w:World),d0.size=d.size->b<=d.size->SWK yF 2 w0 blk off d w->SortedIn (ltOf wP) a m d->SortedIn (ltOf wP) m b d ->
  Calls Tryz.prog 232 #[.slice (some ⟨blk,off,none⟩) d.size cap,.int .i64 a,.int .i64 m,.int .i64 b,.func (.func 187) #[] #[]] w fun e w' =>
   e=.returned (.tuple #[])/\∃dk,SWK yF 2 w0 blk off dk w'/\Mrg (ltOf wP) Fx.name a b d dk
theorem zEw (blk off cap a m b:Nat) (d0:Array Fx) (w0:World) (R:RowK yF 2 w0 blk off d0) (hm:a+1<m) (hmb:m+1<b) (hsz:d0.size<2305843009213693952)
  (IH:∀a' m' b',a'<m'->m'<b'->b'-a'<b-a->zKt blk off cap d0 w0 a' m' b'):zKt blk off cap d0 w0 a m b:=by
 intro d w hs hb S hL hR;have mixed:=Tryz.mixed;have eg:=qJ;have S0:Aside (SWK yF 2 w0 blk off d w):=S;have RR:Aside (RowK yF 2 w0 blk off d0):=R;have HIH:=hid IH;have HSL:=hid hL;have HSR:=hid hR;have e0:IntKind.i64.wrap ((m:Int)-(a:Int))=((m-a:Nat):Int):=by rw [IntKind.wrap_i64];omega
 have e1:(((m-a:Nat):Int)==1)=false:=beq_eq_false_iff_ne.2 (by omega);have e2:IntKind.i64.wrap ((b:Int)-(m:Int))=((b-m:Nat):Int):=by rw [IntKind.wrap_i64];omega
 have e3:(((b-m:Nat):Int)==1)=false:=beq_eq_false_iff_ne.2 (by omega);obtain ⟨mid,hmid⟩:∃mid,(a+b) / 2=mid:=⟨_,rfl⟩;have hmz:((a:Int)+(b:Int)) / 2=(mid:Int):=by omega
 have hm1:2 * mid<=a+b:=by omega
 have hm2:a+b<=2 * mid+1:=by omega
 obtain ⟨nn,hnn⟩:∃nn,mid+m=nn:=⟨_,rfl⟩;have hnz:(mid:Int)+(m:Int)=(nn:Int):=by omega
 have e5:IntKind.i64.wrap ((nn:Int)-1)=((nn-1:Nat):Int):=by rw [IntKind.wrap_i64];omega
 have HNN:=hid hnn;clear S R hL hR IH hmid hnn;go_enter Tryz.func232,Tryz.ntmps232;go_upto_if 140 with fail
 go_cut [20,21] from 138 to 146 (fun vs vr wx=>w=wx/\∃s0 r0:Nat,vs=ii s0/\vr=ii r0/\s0<=r0/\((mid<m/\s0+b=nn/\r0=mid)∨(m<=mid/\s0=a/\r0=m)))
 case first =>
  by_cases hc:mid<m
  ·have hcz:(mid:Int)<(m:Int):=by omega
   have e4:IntKind.i64.wrap ((nn:Int)-(b:Int))=((nn-b:Nat):Int):=by rw [IntKind.wrap_i64];omega
   go_wp2_with fail
   go_meet
   case rel=>exact ⟨rfl,nn-b,mid,rfl,rfl,by have:=HNN.out;omega,Or.inl ⟨hc,by have:=HNN.out;omega,rfl⟩⟩
  ·have hcz:¬ (mid:Int)<(m:Int):=by omega
   go_wp2_with fail
   go_meet
   case rel=>exact ⟨rfl,a,m,rfl,rfl,by omega,Or.inr ⟨by omega,rfl,rfl⟩⟩
 case rest =>
 obtain ⟨rfl,s0,r0,rfl,rfl,hsr,hcase⟩:=hcut;have hlo:a<=s0/\r0<=m/\r0<=mid/\nn-s0<=b/\nn-r0≥m/\r0<nn:=by have:=HNN.out;omega
 have HCASE:=hid hcase;obtain ⟨k1,k2,k3,k4,k5,k6⟩:=hlo;clear hcase;go_wp2_with fail
 go_loopg [20,21] (r0-s0) (fun kx vs vr wr=>∃(s r:Nat),vs=ii s/\vr=ii r/\s0<=s/\s<=r/\r<=r0/\r-s<=kx/\Hid (s0<s->ltOf wP d[nn-s]! d[s-1]! = false)/\Hid (r<r0->ltOf wP d[nn-1-r]! d[r]! = true)/\Aside (SWK yF 2 w0 blk off d wr))
 case atStart=>exact ⟨s0,r0,rfl,rfl,by omega,by omega,by omega,by omega,fun h=>absurd h (Nat.lt_irrefl _),fun h=>absurd h (Nat.lt_irrefl _),S0⟩
 case round =>
 clear S0;obtain ⟨s,r,rfl,rfl,hs0,hsr2,hr0,hkx,HLO,HHI,S1⟩:=hrel
 by_cases hlt:s<r
 ·have hltz:(s:Int)<(r:Int):=by omega
  obtain ⟨c,hh⟩:∃c,(s+r) / 2=c:=⟨_,rfl⟩;have hz:((s:Int)+(r:Int)) / 2=(c:Int):=by omega
  have h1:s<=c:=by omega
  have h2:c<r:=by omega
  have e6:IntKind.i64.wrap (((nn-1:Nat):Int)-(c:Int))=((nn-1-c:Nat):Int):=by rw [IntKind.wrap_i64];omega
  clear hh;go_wp2_with fail
  cases hL:ltOf wP d[nn-1-c]! d[c]! with
  | false =>
   have ea:(((nn-1-c:Nat):Int)).toNat=nn-1-c:=by omega
   have pa:(0:Int)<=((nn-1-c:Nat):Int):=by omega
   have ba:((nn-1-c:Nat):Int)<(d.size:Int):=by omega
   have ec:((c:Int)).toNat=c:=by omega
   have pc:(0:Int)<=(c:Int):=by omega
   have bc:(c:Int)<(d.size:Int):=by omega
   have la:=pA S1.out RR.out (by omega) (nn-1-c) (by omega);have lb:=pA S1.out RR.out (by omega) (c) (by omega);have hv:=bL hL;have HL:=hid hL;clear hL
   generalize d[nn-1-c]! = x at la hv
   generalize d[c]! = y at lb hv
   have la0:=fun n os=>(la n os).1
   have la1:=fun n os=>(la n os).2
   have lb0:=fun n os=>(lb n os).1
   have lb1:=fun n os=>(lb n os).2
   clear la lb;have hd:decide (wP x y<0)=false:=decide_eq_false hv;have hc:=cW x y wr;go_wp2_with fail
   go_quiet_grown (first|(go_at_fn 187;refine Calls.grown_of (hc _ _)))
   have S2:Aside (SWK yF 2 w0 blk off d (grow (wr.drewN nq) osq)):=S1.out.grown nq osq;clear la0 la1 lb0 lb1 hc S1
   generalize grow (wr.drewN nq) osq=w2 at S2 ⊢
   clear nq osq;go_wp2_with fail;go_roundg (r-(c+1))
   case measure=>omega
   case rel=>exact ⟨c+1,r,by go_num,rfl,by omega,by omega,hr0,by omega,fun _=>by rw [show nn-(c+1)=nn-1-c by omega];exact HL.out,HHI,S2⟩
  | true =>
   have ea:(((nn-1-c:Nat):Int)).toNat=nn-1-c:=by omega
   have pa:(0:Int)<=((nn-1-c:Nat):Int):=by omega
   have ba:((nn-1-c:Nat):Int)<(d.size:Int):=by omega
   have ec:((c:Int)).toNat=c:=by omega
   have pc:(0:Int)<=(c:Int):=by omega
   have bc:(c:Int)<(d.size:Int):=by omega
   have la:=pA S1.out RR.out (by omega) (nn-1-c) (by omega);have lb:=pA S1.out RR.out (by omega) (c) (by omega);have hv:=zBS hL;have HL:=hid hL;clear hL
   generalize d[nn-1-c]! = x at la hv
   generalize d[c]! = y at lb hv
   have la0:=fun n os=>(la n os).1
   have la1:=fun n os=>(la n os).2
   have lb0:=fun n os=>(lb n os).1
   have lb1:=fun n os=>(lb n os).2
   clear la lb;have hd:decide (wP x y<0)=true:=decide_eq_true hv;have hc:=cW x y wr;go_wp2_with fail
   go_quiet_grown (first|(go_at_fn 187;refine Calls.grown_of (hc _ _)))
   have S2:Aside (SWK yF 2 w0 blk off d (grow (wr.drewN nq) osq)):=S1.out.grown nq osq;clear la0 la1 lb0 lb1 hc S1
   generalize grow (wr.drewN nq) osq=w2 at S2 ⊢
   clear nq osq;go_wp2_with fail;go_roundg (c-s)
   case measure=>omega
   case rel=>exact ⟨s,c,rfl,rfl,hs0,h1,by omega,by omega,HLO,fun _=>HL.out,S2⟩
 have hltz:¬ (s:Int)<(r:Int):=by omega
 obtain rfl:s=r:=by omega
 obtain ⟨e,he⟩:∃e,nn-s=e:=⟨_,rfl⟩;have e7:IntKind.i64.wrap ((nn:Int)-(s:Int))=(e:Int):=by rw [IntKind.wrap_i64];omega
 have hge:m<=e:=by omega
 have heb:e<=b:=by omega
 have hsm:s<=m:=by omega
 have has:a<=s:=by omega
 have hds:s+(e-m)=mid:=by have:=HNN.out;omega
 have hlow:a<s->e<b->ltOf wP d[e]! d[s-1]! = false:=fun h1 h2=>by
  have:=HLO.out (by have:=HCASE.out;have:=HNN.out;omega);rw [he] at this;exact this
 have hhigh:s<m->m<e->ltOf wP d[e-1]! d[s]! = true:=fun h1 h2=>by
  have:=HHI.out (by have:=HCASE.out;have:=HNN.out;omega);rw [show nn-1-s=e-1 by omega] at this;exact this
 have HLOW:=hid hlow;have HHIGH:=hid hhigh;have ham:a<mid:=by omega
 have hmb2:mid<b:=by omega
 clear hlow hhigh HLO HHI hsr2 hkx hlt he k4 k5;go_upto_region 39 with fail
 go_cut [185] from 178 to 185 (fun v wx=>wr=wx/\∃B:Bool,v=.bool B/\Hid (B=true↔(s<m/\m<e)))
 case first =>
  by_cases g1:s<m
  ·have g1z:(s:Int)<(m:Int):=by omega
   have g1d:decide ((s:Int)<(m:Int))=true:=decide_eq_true g1z
   by_cases g2:m<e
   ·have g2z:(m:Int)<(e:Int):=by omega
    have g2d:decide ((m:Int)<(e:Int))=true:=decide_eq_true g2z;go_wp2_with fail;go_meet
    case rel=>exact ⟨rfl,true,rfl,⟨fun _=>⟨g1,g2⟩,fun _=>rfl⟩⟩
   ·have g2z:¬ (m:Int)<(e:Int):=by omega
    have g2d:decide ((m:Int)<(e:Int))=false:=decide_eq_false g2z;go_wp2_with fail;go_meet
    case rel=>exact ⟨rfl,false,rfl,⟨fun h=>Bool.noConfusion h,fun h=>absurd h.2 g2⟩⟩
  ·have g1z:¬ (s:Int)<(m:Int):=by omega
   have g1d:decide ((s:Int)<(m:Int))=false:=decide_eq_false g1z;go_wp2_with fail;go_meet
   case rel=>exact ⟨rfl,false,rfl,⟨fun h=>Bool.noConfusion h,fun h=>absurd h.1 g1⟩⟩
 case rest =>
 obtain ⟨rfl,B,rfl,HB⟩:=hcut;go_upto_if 185 with fail
 go_cut [] from 185 to 191 (fun wx=>∃d1,Aside (SWK yF 2 w0 blk off d1 wx)/\d1.size=d.size/\Hid (Rot s m e d d1))
 case first =>
  cases B with
  | true =>
   have hc:=HB.out.1 rfl;have hr:=zGm blk off cap s m e (.func (.func 187) #[] #[]) d0 d w0 wr RR.out hs S1.out hc.1 hc.2 (by omega) (by omega);have HRO:=hid hr;clear hr S1 hc;go_wp2_with (first|(go_at_call 239;refine HRO.out.mono ?_;rintro _ w1 ⟨rfl,d1,hs1,hr1⟩;have HS1:Aside _:=hs1;have HR1:=hid hr1;clear hs1 hr1));go_meet
   case rel=>exact ⟨d1,HS1,HR1.out.1,HR1⟩
  | false =>
   have hc:¬ (s<m/\m<e):=fun h=>Bool.noConfusion (HB.out.2 h)
   have hrot:Rot s m e d d:=by
    by_cases e1:s<m
    ·rw [show e=m by omega];exact zFH _ _ _
    ·rw [show s=m by omega];exact zCb _ _ _
   have HRT:=hid hrot;clear hrot hc;go_wp2_with fail;go_meet
   case rel=>exact ⟨d,S1,rfl,HRT⟩
 case rest =>
 clear S1;obtain ⟨d1,S1,hz1,HRT⟩:=hcut;have hcut2:=zJU (K:=Fx.name) zMK zD2 HRT.out has hsm hge heb hb hds HSL.out HSR.out HLOW.out HHIGH.out;obtain ⟨t1,t2,t3,t4⟩:=hcut2;have HT1:=hid t1;have HT2:=hid t2;have HT3:=hid t3;have HT4:=hid t4;clear t1 t2 t3 t4 HLOW HHIGH HRT;go_upto_region 41 with fail
 go_cut [199] from 192 to 199 (fun v wx=>wc=wx/\∃B:Bool,v=.bool B/\Hid (B=true↔(a<s/\s<mid)))
 case first =>
  by_cases g1:a<s
  ·have g1z:(a:Int)<(s:Int):=by omega
   have g1d:decide ((a:Int)<(s:Int))=true:=decide_eq_true g1z
   by_cases g2:s<mid
   ·have g2z:(s:Int)<(mid:Int):=by omega
    have g2d:decide ((s:Int)<(mid:Int))=true:=decide_eq_true g2z;go_wp2_with fail;go_meet
    case rel=>exact ⟨rfl,true,rfl,⟨fun _=>⟨g1,g2⟩,fun _=>rfl⟩⟩
   ·have g2z:¬ (s:Int)<(mid:Int):=by omega
    have g2d:decide ((s:Int)<(mid:Int))=false:=decide_eq_false g2z;go_wp2_with fail;go_meet
    case rel=>exact ⟨rfl,false,rfl,⟨fun h=>Bool.noConfusion h,fun h=>absurd h.2 g2⟩⟩
  ·have g1z:¬ (a:Int)<(s:Int):=by omega
   have g1d:decide ((a:Int)<(s:Int))=false:=decide_eq_false g1z;go_wp2_with fail;go_meet
   case rel=>exact ⟨rfl,false,rfl,⟨fun h=>Bool.noConfusion h,fun h=>absurd h.1 g1⟩⟩
 case rest =>
 obtain ⟨rfl,B,rfl,HB⟩:=hcut;go_upto_if 199 with fail
 go_cut [] from 199 to 205 (fun wx=>∃d2,Aside (SWK yF 2 w0 blk off d2 wx)/\Hid (Mrg (ltOf wP) Fx.name a mid d1 d2))
 case first =>
  cases B with
  | true =>
   have hc:=HB.out.1 rfl;have hr:=HIH.out a s mid hc.1 hc.2 (by omega) d1 wc (by omega) (by omega) S1.out HT1.out HT2.out;rw [hz1] at hr;have HRO:=hid hr;clear hr S1 hc;go_wp2_with (first|(go_at_call 232;refine HRO.out.mono ?_;rintro _ w1 ⟨rfl,d2,hs1,hr1⟩;have HS1:Aside _:=hs1;have HR1:=hid hr1;clear hs1 hr1));go_meet
   case rel=>exact ⟨d2,HS1,HR1⟩
  | false =>
   have hc:¬ (a<s/\s<mid):=fun h=>Bool.noConfusion (HB.out.2 h)
   have HRT:=hid (HT3.out hc);clear hc;go_wp2_with fail;go_meet
   case rel=>exact ⟨d1,S1,HRT⟩
 case rest =>
 clear S1;obtain ⟨d2,S1,HM2⟩:=hcut;obtain ⟨t1,t2,t3,t4⟩:=HT4.out d2 HM2.out;have hz2:d2.size=d1.size:=HM2.out.1.1;have HU1:=hid t1;have HU2:=hid t2;have HU3:=hid t3;have HU4:=hid t4;clear t1 t2 t3 t4 HT1 HT2 HT3 HT4 HM2;go_upto_region 43 with fail
 go_cut [213] from 206 to 213 (fun v wx=>wc=wx/\∃B:Bool,v=.bool B/\Hid (B=true↔(mid<e/\e<b)))
 case first =>
  by_cases g1:mid<e
  ·have g1z:(mid:Int)<(e:Int):=by omega
   have g1d:decide ((mid:Int)<(e:Int))=true:=decide_eq_true g1z
   by_cases g2:e<b
   ·have g2z:(e:Int)<(b:Int):=by omega
    have g2d:decide ((e:Int)<(b:Int))=true:=decide_eq_true g2z;go_wp2_with fail;go_meet
    case rel=>exact ⟨rfl,true,rfl,⟨fun _=>⟨g1,g2⟩,fun _=>rfl⟩⟩
   ·have g2z:¬ (e:Int)<(b:Int):=by omega
    have g2d:decide ((e:Int)<(b:Int))=false:=decide_eq_false g2z;go_wp2_with fail;go_meet
    case rel=>exact ⟨rfl,false,rfl,⟨fun h=>Bool.noConfusion h,fun h=>absurd h.2 g2⟩⟩
  ·have g1z:¬ (mid:Int)<(e:Int):=by omega
   have g1d:decide ((mid:Int)<(e:Int))=false:=decide_eq_false g1z;go_wp2_with fail;go_meet
   case rel=>exact ⟨rfl,false,rfl,⟨fun h=>Bool.noConfusion h,fun h=>absurd h.1 g1⟩⟩
 case rest =>
 obtain ⟨rfl,B,rfl,HB⟩:=hcut
 cases B with
 | true =>
  have hc:=HB.out.1 rfl;have hr:=HIH.out mid e b hc.1 hc.2 (by omega) d2 wc (by omega) (by omega) S1.out HU1.out HU2.out;rw [hz2,hz1] at hr;have HRO:=hid hr;clear hr S1 hc;go_wp2_with (first|(go_at_call 232;refine HRO.out.mono ?_;rintro _ w1 ⟨rfl,d3,hs1,hr1⟩;have HS1:Aside _:=hs1;have HR1:=hid hr1;clear hs1 hr1))
  go_end0
  exact ⟨rfl,d3,HS1.out,HU4.out d3 HR1.out⟩
 | false =>
  have hc:¬ (mid<e/\e<b):=fun h=>Bool.noConfusion (HB.out.2 h)
  have HRT:=hid (HU4.out d2 (HU3.out hc));clear hc;go_wp2_with fail
  go_end0
  exact ⟨rfl,d2,S1.out,HRT.out⟩
theorem zDb (blk off cap:Nat) (d0:Array Fx) (w0:World) (R:RowK yF 2 w0 blk off d0) (hsz:d0.size<2305843009213693952):∀(n a m b:Nat),b-a<=n->a<m->m<b->zKt blk off cap d0 w0 a m b
 | 0,a,m,b,hn,h1,h2=>by omega
 | n+1,a,m,b,hn,h1,h2=>by
  by_cases c1:m=a+1
  ·intro d w hs hb S hL hR;exact zLA blk off cap a m b d0 d w0 w R hs S c1 h2 hb (by omega) hR
  ·by_cases c2:b=m+1
   ·intro d w hs hb S hL hR;exact zIc blk off cap a m b d0 d w0 w R hs S (by omega) c2 hb (by omega) hL
   ·exact zEw blk off cap a m b d0 w0 R (by omega) (by omega) hsz (fun a' m' b' k1 k2 k3=>zDb blk off cap d0 w0 R hsz n a' m' b' (by omega) k1 k2)
end
section
open Go.RowKit Go.Sort Go.Lib Go.Shelf
theorem zHp (blk off cap a b:Nat) (d0 dk:Array Fx) (w0 W:World) (R:RowK yF 2 w0 blk off d0) (hs:d0.size=dk.size) (S:SWK yF 2 w0 blk off dk W) (hab:a<=b) (hb:b<=dk.size) (hsz:dk.size<1152921504606846976) :
  Calls Tryz.prog 231 #[.slice (some ⟨blk,off,none⟩) dk.size cap,.int .i64 a,.int .i64 b,.func (.func 187) #[] #[]] W fun e w' =>
   e=.returned (.tuple #[])/\∃dl,SWK yF 2 w0 blk off dl w'/\PermIn a b dk dl/\SortedIn (ltOf wP) a b dl/\nB Fx.name dk dl:=by
 refine (zM1 blk off cap a b dk W (S.holds R.hblk R.hH hs.symm) (S.lt R.hblk) hab hb (by omega)).mono ?_;rintro e w' ⟨rfl,n,os,rfl⟩;obtain ⟨h1,h2⟩:=insertionSort_holds zMK dk a b hab hb;exact ⟨rfl,_,S.on R.hblk n _ os h1.1,h1,h2,fR (K:=Fx.name) zD2 dk a b hb⟩
theorem zHX (blk off cap:Nat) (d:Array Fx) (w:World) (hH:HoldsK yF 2 w blk off d) (hblk:blk<w.heap.size) (hsz:d.size<1152921504606846976) :
  Calls Tryz.prog 213 #[.slice (some ⟨blk,off,none⟩) d.size cap,.int .i64 d.size,.func (.func 187) #[] #[]] w fun e w'=>e=.returned (.tuple #[])/\zKZ w blk off d w':=by
 have RR:Aside (RowK yF 2 w blk off d):=⟨fun _=>rfl,zEY,hH,hblk⟩;have S0:Aside (SWK yF 2 w blk off d w):=SWK.start hH;clear hH hblk;go_enter Tryz.func213,Tryz.ntmps213;go_wp2_with fail
 go_loopg [7,8] d.size (fun kx va vb wr=>∃(A B q:Nat) (dk:Array Fx),va=ii A/\vb=ii B/\B=A+20/\Hid (A=q * 20)/\A<=d.size/\d.size-A<=kx/\Aside (Way Fx.name d dk)/\Aside (zAO (ltOf wP) 20 q dk)/\Aside (SWK yF 2 w blk off dk wr))
 case atStart=>exact ⟨0,20,0,d,rfl,rfl,rfl,(show Hid _ from by simp [Hid]),by omega,by omega,Way.refl _ _,zBD _ _ _,S0⟩
 case round =>
 clear S0;obtain ⟨A,B,q,dk,rfl,rfl,hB,HA,hAn,hkx,HW,HG,S1⟩:=hrel;have hdk:dk.size=d.size:=HW.out.size
 by_cases hlt:B<=d.size
 ·have hltz:(B:Int)<=(d.size:Int):=by omega
  have hc:=zHp blk off cap A B d dk w wr RR.out hdk.symm S1.out (by omega) (by omega) (by omega);rw [hdk] at hc;have HC:=hid hc;have HB:=hid hB;have hAB:A<B:=by omega
  clear hc S1 hB;go_wp2_with (first|(go_at_call 231;refine HC.out.mono ?_;rintro e w1 ⟨rfl,dl,hs1,hp1,ho1,ht1⟩;have HS1:Aside _:=hs1;have HP1:=hid hp1;have HO1:=hid ho1;have HT1:=hid ht1;clear hs1 hp1 ho1 ht1));go_roundg (d.size-B)
  case measure=>omega
  case rel =>
   have hb:=HB.out;have ha:=HA.out;have hp:=HP1.out;have ho:=HO1.out;rw [hb,ha] at hp ho;exact ⟨B,B+20,q+1,dl,by first|rfl|go_num,by first|rfl|go_num,rfl,(show Hid _ from by show B=_;omega),hlt,by omega,HW.out.step HP1.out hlt HT1.out,HG.out.step hp ho,HS1⟩
 have hltz:¬ (B:Int)<=(d.size:Int):=by omega
 have hc:=zHp blk off cap A d.size d dk w wr RR.out hdk.symm S1.out hAn (by omega) (by omega);rw [hdk] at hc;have HC:=hid hc
 have hseg:∀dl,PermIn A d.size dk dl->SortedIn (ltOf wP) A d.size dl->uO (ltOf wP) 20 0 d.size dl:=fun dl h1 h2=>by
  have ha:=HA.out;refine HG.out.last (by omega) ?_ ?_
  ·rw [<-ha];exact h1
  ·rw [<-ha];exact h2
 have HSEG:=hid hseg;clear hc S1 hseg hB hkx;go_wp2_with (first|(go_at_call 231;refine HC.out.mono ?_;rintro e w1 ⟨rfl,dl,hs1,hp1,ho1,ht1⟩;have HS1:Aside _:=hs1;have HW1:Aside (Way Fx.name d dl):=HW.out.step hp1 (Nat.le_refl _) ht1;have HF1:Aside _:=HSEG.out dl hp1 ho1;clear hs1 hp1 ho1 ht1));clear HC HSEG HW HG HA hdk
 go_loopg [6] d.size (fun kx vc wr=>∃(c:Nat) (dk:Array Fx),vc=ii c/\0<c/\d.size-c<=kx/\Aside (Way Fx.name d dk)/\Aside (uO (ltOf wP) c 0 d.size dk)/\Aside (SWK yF 2 w blk off dk wr))
 case atStart=>exact ⟨20,dl,rfl,by omega,by omega,HW1,HF1,HS1⟩
 case round =>
 clear HW1 HF1 HS1;obtain ⟨c,dk,rfl,hc0,hkx,HW,HF,S1⟩:=hrel
 by_cases hlt:c<d.size
 ·have hltz2:(c:Int)<(d.size:Int):=by omega
  go_wp2_with fail
  go_loopg [7,8] d.size (fun kx va vb wr=>∃(A B q:Nat) (dk:Array Fx),va=ii A/\vb=ii B/\B=A+2 * c/\Hid (A=q * (2 * c))/\A<=d.size/\d.size-A<=kx/\Aside (Way Fx.name d dk)/\Aside (zAO (ltOf wP) (2 * c) q dk)/\Aside (uO (ltOf wP) c A d.size dk)/\Aside (SWK yF 2 w blk off dk wr))
  case atStart=>exact ⟨0,2 * c,0,dk,rfl,by first|rfl|go_num,by omega,(show Hid _ from by simp [Hid]),by omega,by omega,HW,zBD _ _ _,HF,S1⟩
  case round =>
  clear HW HF S1;obtain ⟨A,B,q,dm,rfl,rfl,hB,HA,hAn,hkx2,HW,HG,HF,S1⟩:=hrel;have hdm:dm.size=d.size:=HW.out.size;obtain ⟨M,hM⟩:∃M,A+c=M:=⟨_,rfl⟩;have hMz:(A:Int)+(c:Int)=(M:Int):=by omega
  by_cases hlt3:B<=d.size
  ·have hltz3:(B:Int)<=(d.size:Int):=by omega
   have hc:=zDb blk off cap d w RR.out (by omega) (B-A) A M B (Nat.le_refl _) (by omega) (by omega) dm wr hdm.symm (by omega) S1.out (by rw [<-hM];exact HF.out.first (by omega)) (by rw [<-hM];exact HF.out.second (by omega) hlt3);rw [hdm] at hc;have HC:=hid hc;have HB:=hid hB;have hAB:A<B:=by omega
   have hBw:IntKind.i64.wrap ((B:Int)+2 * (c:Int))=(B:Int)+2 * (c:Int):=by rw [IntKind.wrap_i64];omega
   clear hc S1 hB hM;go_wp2_with (first|(go_at_call 232;refine HC.out.mono ?_;rintro e w1 ⟨rfl,dl,hs1,hm1⟩;have HS1:Aside _:=hs1;have HM1:=hid hm1;clear hs1 hm1));go_roundg (d.size-B)
   case measure=>omega
   case rel =>
    obtain ⟨hp1,ho1,ht1⟩:=HM1.out;have hb:=HB.out;have ha:=HA.out;have hp:=hp1;have ho:=ho1;have hp2:=hp1;rw [hb] at hp2;rw [hb,ha] at hp ho;refine ⟨B,B+2 * c,q+1,dl,by first|rfl|go_num,by first|rfl|go_num,rfl,(show Hid _ from ?_),hlt3,by omega,HW.out.step hp1 hlt3 ht1,HG.out.step hp ho,?_,HS1⟩
    ·show B=(q+1) * (2 * c)
     rw [Nat.add_mul,Nat.one_mul,<-ha];exact hb
    ·rw [hb];exact HF.out.step hp2
  have hltz3:¬ (B:Int)<=(d.size:Int):=by omega
  have hcw:IntKind.i64.wrap ((c:Int) * 2)=(c:Int) * 2:=by rw [IntKind.wrap_i64];omega
  have hseg:∀dl,PermIn A d.size dm dl->SortedIn (ltOf wP) A d.size dl->uO (ltOf wP) (2 * c) 0 d.size dl:=fun dl h1 h2=>by
   have ha:=HA.out;refine HG.out.last (by omega) ?_ ?_
   ·rw [<-ha];exact h1
   ·rw [<-ha];exact h2
  have HSEG:=hid hseg;clear hseg
  by_cases hlt4:M<d.size
  ·have hltz4:(M:Int)<(d.size:Int):=by omega
   have hc:=zDb blk off cap d w RR.out (by omega) (d.size-A) A M d.size (Nat.le_refl _) (by omega) hlt4 dm wr hdm.symm (by omega) S1.out (by rw [<-hM];exact HF.out.first (by omega)) (by rw [<-hM];exact HF.out.second (by omega) (Nat.le_refl _));rw [hdm] at hc;have HC:=hid hc;clear hc S1 hM hB;go_wp2_with (first|(go_at_call 232;refine HC.out.mono ?_;rintro e w1 ⟨rfl,dl,hs1,hm1⟩;have HS1:Aside _:=hs1;have HM1:=hid hm1;clear hs1 hm1));go_roundg (d.size-2 * c)
   case measure=>omega
   case rel =>
    obtain ⟨hp1,ho1,ht1⟩:=HM1.out;exact ⟨2 * c,dl,by first|rfl|go_num,by omega,by omega,HW.out.step hp1 (Nat.le_refl _) ht1,HSEG.out dl hp1 ho1,HS1⟩
  ·have hltz4:¬ (M:Int)<(d.size:Int):=by omega
   have HSO:=hid (HF.out.short (show d.size<=A+c by omega));clear hM hB;go_wp2_with fail;go_roundg (d.size-2 * c)
   case measure=>omega
   case rel=>exact ⟨2 * c,dm,by first|rfl|go_num,by omega,by omega,HW,HSEG.out dm (permIn_refl _ _ _) HSO.out,S1⟩
 ·have hltz2:¬ (c:Int)<(d.size:Int):=by omega
  go_wp2_with fail
  go_end0
  obtain ⟨n,os,hw⟩:=S1.out;exact ⟨rfl,dk,n,os,HW.out.1,HF.out.short (by omega),HW.out.2,hw⟩
theorem zKr (blk off cap:Nat) (d:Array Fx) (w:World) (hH:HoldsK yF 2 w blk off d) (hblk:blk<w.heap.size) (hsz:d.size<1152921504606846976) :
  Calls Tryz.prog 186 #[.slice (some ⟨blk,off,none⟩) d.size cap,.func (.func 187) #[] #[]] w fun e w'=>e=.returned (.tuple #[])/\zKZ w blk off d w':=by
 have HI:=hid (zHX blk off cap d w hH hblk hsz);clear hH;go_enter Tryz.func186,Tryz.ntmps186;go_wp2_with (first|(go_at_call 213;refine HI.out.mono ?_;rintro e w1 ⟨rfl,hs⟩))
 go_end0
 exact ⟨rfl,hs⟩
end
section
open Go.RowKit Go.Sort Go.Lib
theorem zI8 {ops:Array Oper} {o:Oper} {a:Act} {K:Act->World->Prop} {Q:Exit->Act->World->Prop} {E:Prop} (w:World) (hgd:o.guard=none) (s x:Operand)
  (ho:o.op=.call { callee:=.builtin .append,args:=#[s,x],argTypes:=#[43,43] }) (q:Option Addr) (n cap:Nat) (p:Option Addr) (c:Nat)
  (hs:a.eval s=.slice q n cap) (hcap:n<=cap) (hx:a.eval x=.slice p 0 c) (hq:q=none->n=0/\cap=0)
  (h:K (a.put o.dst (.slice q n cap)) w) :
  if Region.wanted o (yielded ops a.tmps)=true then Oper.wp Tryz.prog o a w K Q else E:=by
 have hw:Region.wanted o (yielded ops a.tmps)=true:=by simp [Region.wanted,hgd]
 rw [if_pos hw];obtain ⟨i0,hi0,_,_,_⟩:=info_parts Tryz.infoStr
 have hrun:(Builtin.append_ #[43,43] o.type #[sc q n cap,sc p 0 c]).run Tryz.prog w=.ok (sc q n cap) w:=by
  cases q with
  | none =>
   obtain ⟨rfl,rfl⟩:=hq rfl
   cases p<;>simp [Builtin.append_,run_underlying Tryz.underlying43,Builtin.lenOf,Builtin.firstCells,sizeOf,typeInfo,hi0,loadCells,loadCellsFrom]
  | some q =>
   cases p<;>simp [Builtin.append_,run_underlying Tryz.underlying43,Builtin.lenOf,Builtin.firstCells,sizeOf,typeInfo,hi0,storeCells,loadCells,loadCellsFrom,hcap]
 unfold Oper.wp;simp [execOp,ho,resolve,invoke,builtin,hs,hx,hrun,Result.andThen];exact h
theorem zGG {N:Nat} {w:World} {o:List Fx} {x:Fx} {go cp:Nat} (h:uW N w (.slice (some ⟨go,0,none⟩) (o.length+1) cp) (o++[x])) :
  uW N (w.setCell ⟨go,o.length * 2+1,none⟩ x.sl) (.slice (some ⟨go,0,none⟩) (o.length+1) cp) (o++[x]):=by
 obtain ⟨⟨hrow,htx⟩,hap⟩:=h;have hlen:(o++[x]).length=o.length+1:=by simp
 rw [hlen] at hrow;have hst:=hrow.stored (o.length * 2+1) x.sl;have hget:=(qE (o++[x]) o.length (by simp)).2;simp only [List.getElem_concat_length] at hget
 have e1:(yN (o++[x])).set (o.length * 2+1) x.sl=yN (o++[x]):=by
  apply List.ext_getElem?
  intro j;rw [List.getElem?_set]
  split
  ·rename_i hj
   subst hj;rw [if_pos (by rw [nO];simp;omega)];exact hget.symm
  ·rfl
 rw [e1] at hst;refine ⟨⟨by rw [hlen];exact hst.1,fun y hy=>qU (htx y hy) hrow (by decide) (zZ w go _ _)⟩,hap⟩
theorem fW {N:Nat} {w w4:World} {v v':Value} {o:List Fx} {x:Fx} {M:Nat} (h:uW N w v o) (hx:yV M w x.sl x.txt) (hM:∀y∈o,∀k,y.sl.ownBlock=some k->k<M) (hNM:N<=M)
  (hown:w4.ownsRow N 45 2 v' (o.length+1) (yN o++yN [x])) (hg:w.grownBy w4 v.ownBlock):uW N w4 v' (o++[x]):=by
 refine ⟨h.1.put (own_weak hx hNM) hown hg,zBO h.2 fun y hy=>?_⟩
 rcases hb:y.sl.ownBlock with _|k
 ·exact Or.inl rfl
 ·right;intro e;have h1:=hM y hy k hb;have h2:=(World.ownsRow.lt hx k e.symm).1;omega
def zNX (w:World) (B:Nat) (f:Fx):Prop:=w.heap[B]? = some (.cells #[.string f.name,.slice f.p f.txt.length f.cap] 45 (0,0))
theorem zCl {ops:Array Oper} {o:Oper} {a:Act} {K:Act->World->Prop} {Q:Exit->Act->World->Prop} {E:Prop} (w:World) (hgd:o.guard=none) (s x:Operand)
  (ho:o.op=.call { callee:=.builtin .append,args:=#[s,x],argTypes:=#[37,37] }) (N:Nat) (v:Value) (os:List Fx) (n:Nat) (hs:a.eval s=v) (hoj:uW N w v os) (hn:os.length=n) (B:Nat) (f:Fx)
  (hx:a.eval x=.slice (some ⟨B,0,none⟩) 1 1) (hB:zNX w B f) (hl:(n+1) * 40<=140737488355328) (hN:N<=w.heap.size)
  (h:∀g cap w',w'.ownsRow N 45 2 (.slice (some ⟨g,0,none⟩) (n+1) cap) (n+1) (yN os++yN [f])->w.grownBy w' v.ownBlock->K (a.put o.dst (.slice (some ⟨g,0,none⟩) (n+1) cap)) w') :
  if Region.wanted o (yielded ops a.tmps)=true then Oper.wp Tryz.prog o a w K Q else E:=by
 subst hn;obtain ⟨j0,hj,hj0,hj1,hj2⟩:=info_parts Tryz.infoFld;refine step_append_lies w hgd s x 37 ho N 45 j0 (.agg #[tq ⟨#[]⟩,sc none 0 0]) 2 40 Tryz.underlying37 hj hj0 hj1 hj2 rfl (by decide) v os.length (yN os) hs hoj.1.1 (aa B 0) 1 1 (yN [f]) hx rfl (fun j u hju=>?_) (tS _) (by decide) (by unfold maxLen;omega) hl hN _ rfl (fun g cap w' h1 h2 _ _=>h g cap w' h1 h2);exact World.news_of_block hB j u hju
def zK9 (w2:World) (ds:List Fx) (i:Nat) (v:Value) (wr:World):Prop :=
 ∃o:List Fx,uW w2.heap.size wr v o/\o.map Fx.fld=wN ((ds.map Fx.fld).take i)/\Below w2.heap.size w2 wr
theorem zLU {n0:Nat} {w:World} {x:Fx} (h:yV n0 w x.sl x.txt):x.txt.length<=x.cap/\(x.p=none->x.txt.length=0/\x.cap=0):=by
 rcases h.2 with ⟨hv,h0⟩|⟨g,cap,cur,hv,_,_,h1,_⟩
 ·unfold Fx.sl at hv;injection hv with h1 h2 h3
  rw [h0,h3];exact ⟨Nat.le_refl _,fun _=>⟨rfl,rfl⟩⟩
 ·unfold Fx.sl at hv;injection hv with h3 h4 h5
  rw [h5];exact ⟨h1,fun h=>by rw [h3] at h;cases h⟩
def bM (d ds:List Fx):Prop:=ds.Perm d/\(ds.Pairwise fun x y=>ltOf wP y x=false)/\∀c,ds.filter (fun x=>decide (x.name=c))=d.filter fun x=>decide (x.name=c)
theorem zJj (u:Value) (d:List Fx) (n0:Nat) (w:World) (hn:n0<=w.heap.size) (ho:w.ownsRow n0 45 2 u d.length (yN d)) (h20:d.length<1152921504606846976) :
  Calls Tryz.prog 186 #[u,.func (.func 187) #[] #[]] w fun e w' =>
   e=.returned (.tuple #[])/\∃(ds:List Fx) (p:Option Addr) (cap:Nat),u=.slice p ds.length cap/\(ds=[]∨∃g,p=some ⟨g,0,none⟩/\kL w' g 0 ds)/\bM d ds/\Below n0 w w':=by
 rcases ho.2 with ⟨rfl,h0⟩|⟨g,cap,cur,rfl,hN,hg,_,_,hsz,htk⟩
 ·obtain rfl:=List.length_eq_zero_iff.1 h0;refine (zJS none 0 _ w).mono ?_;rintro e w' ⟨rfl,rfl⟩;exact ⟨rfl,[],none,0,rfl,Or.inl rfl,⟨List.Perm.refl _,List.Pairwise.nil,fun _=>rfl⟩,Below.refl _ _⟩
 ·have hgl:=(Array.getElem?_eq_some_iff.1 hg).1;have hH:HoldsK yF 2 w g 0 d.toArray:=zCM d.toArray hg (by simpa using htk);have hs:d.toArray.size=d.length:=by simp
  have hc:=zKr g 0 cap d.toArray w hH hgl (by rw [hs];exact h20);rw [hs] at hc;refine hc.mono ?_;rintro e w' ⟨rfl,hso⟩;obtain ⟨ds,h1,h2,h3,h4,h5⟩:=zJT hH hgl hso;obtain ⟨d',n,os,_,_,_,hw⟩:=hso;refine ⟨rfl,ds,_,cap,by rw [h1,hs],Or.inr ⟨g,rfl,h2⟩,⟨by simpa using h3,h4,by simpa using h5⟩,?_⟩;rw [hw];exact zA5 (Below.refl _ _) hn g 0 n d' os hN
def zKP (w:World) (d:List Fx) (e:Ending) (w':World):Prop :=
 ∃(u:Value) (ds o:List Fx),e=.returned u/\bM d ds/\uW w.heap.size w' u o/\o.map Fx.fld=wN (ds.map Fx.fld)/\Below w.heap.size w w'
theorem zHQ (v:Value) (d:List Fx) (w:World) (hv:qZ w v d) (hl:d.length * 40<=140737488355328) (htot:vN (d.map Fx.fld) * 16<=140737488355328) :
  Calls Tryz.prog 156 #[v] w fun e w'=>zKP w d e w':=by
 obtain ⟨i0,hi,hz0,hz1,hz2⟩:=info_parts Tryz.infoStr;obtain ⟨j0,hj,hj0,hj1,hj2⟩:=info_parts Tryz.infoFld;have HI:=hid hi;have HJ:=hid hj;have HC:=hid (zHZ v d w hv hl);have HTX:=hid hv.at_all;have HTOT:=hid htot;have HL:=hid hl;have h20:d.length<1152921504606846976:=by omega
 clear hv hi hj htot hl;go_enter Tryz.func156,Tryz.ntmps156;go_wp2_with (first|(go_at_call 185;refine HC.out.mono ?_;rintro e w1 ⟨u1,rfl,ho1,hb1⟩)|(go_at_call 186;refine (zJj _ d w.heap.size _ hb1.size ho1 h20).mono ?_;rintro e w2 ⟨rfl,ds,p,cap,rfl,hds,hso,hb2⟩;have HDS:=hid hds;have HSO:=hid hso;clear hds hso));have hbw2:Below w.heap.size w w2:=hb1.trans hb2;have hlen:ds.length=d.length:=HSO.out.1.length_eq;have hlz:ds.length<=9223372036854775807:=by omega
 have HTD:Hid (∀x∈ds,x.at w2):=fun x hx=>(HTX.out x (HSO.out.1.mem_iff.1 hx)).kept hbw2
 have HTT:Hid (vN (ds.map Fx.fld) * 16<=140737488355328):=by
  have:vN (ds.map Fx.fld)=vN (d.map Fx.fld):=((HSO.out.1.map Fx.fld).map _).sum_nat;show _<=_;rw [this];exact HTOT.out
 have HB2:=hid hbw2;have HL2:Hid (ds.length * 40<=140737488355328):=by show _<=_;rw [hlen];exact HL.out
 clear ho1 hb1 hb2 hbw2 hlen;have ST0:Hid (zK9 w2 ds 0 (sc none 0 0) w2):=⟨[],⟨⟨World.ownsRow_nil _ _ _ _,fun x hx=>by simp at hx⟩,List.Pairwise.nil⟩,rfl,Below.refl _ _⟩
 go_loopg [4,14] ds.length (fun g v4 vi wr=>∃i:Nat,vi=ii i/\i<=ds.length/\ds.length-i<=g/\zK9 w2 ds i v4 wr)
 case atStart=>exact ⟨0,rfl,by omega,by omega,ST0.out⟩
 case round =>
  obtain ⟨i,rfl,hi,hgk,o,hoj,hmap,hb⟩:=hrel
  by_cases hlt:i<ds.length
  ·have hltz:(i:Int)<(ds.length:Int):=by omega
   have hiz:(0:Int)<=i:=by omega
   obtain ⟨g,rfl,hxs⟩:∃g,p=some (aa g 0)/\kL w2 g 0 ds:=by
    rcases HDS.out with h|h
    ·rw [h] at hlt;simp at hlt
    ·exact h
   have hcs:=hxs i hlt
   have c0:wr.cell? (aa g (i * 2))=some (tq ds[i].name):=by
    have:=(hb.cell (p:=(aa g (0+i * 2))) (zJ hcs.1)).trans hcs.1
    simpa using this
   have c1:wr.cell? (aa g (i * 2+1))=some ds[i].sl:=by
    have:=(hb.cell (p:=(aa g (0+i * 2+1))) (zJ hcs.2)).trans hcs.2
    simpa using this
   have hfi:(ds[i]).at w2:=HTD.out _ (List.getElem_mem hlt)
   have htk:(ds.map Fx.fld).take (i+1)=(ds.map Fx.fld).take i++[ds[i].fld]:=by
    rw [List.take_succ_eq_append_getElem (by rw [List.length_map];exact hlt)];simp
   obtain ⟨f,hf⟩:∃f,ds[i]=f:=⟨_,rfl⟩;rw [hf] at c0 c1 hfi htk
   have hbound:(vN (o.map Fx.fld)+f.txt.length) * 16<=140737488355328:=by
    have h1:vN ((ds.map Fx.fld).take (i+1))<=vN (ds.map Fx.fld):=by
     conv=>rhs;rw [<-List.take_append_drop (i+1) (ds.map Fx.fld),tW]
     omega
    rw [htk,tW,kH,<-zBt,<-hmap] at h1;have h2:=HTT.out;have h3:(f.fld).2.length=f.txt.length:=rfl;omega
   have holen:o.length<=i:=by
    have h1:=zDD ((ds.map Fx.fld).take i);rw [<-hmap,List.length_map,List.length_take] at h1;omega
   have HBND:=hid hbound;have HFI:=hid (hfi.kept hb);have HNX:Hid (wN ((ds.map Fx.fld).take (i+1))=wC (o.map Fx.fld) f.fld):=by show _=_;rw [htk,zBi,hmap]
   have HB:=hid hb;have hsz:=hb.size;clear hxs hcs hfi htk hf hmap hb hbound;unfold Fx.sl at c1
   rcases List.eq_nil_or_concat o with rfl|⟨o',x,rfl⟩
   ·obtain ⟨p4,cp4,rfl⟩:∃p cp,u4=sc p 0 cp:=by
     rcases hoj.1.1.2 with ⟨hv,_⟩|⟨g4,cap4,cur,hv,_⟩
     ·exact ⟨none,0,hv⟩
     ·exact ⟨_,_,hv⟩
    have HUL:Hid (∀k,(Value.slice p4 0 cp4).ownBlock=some k->k<wr.heap.size):=fun k hk=>(World.ownsRow.lt hoj.1.1 k hk).2
    have cb:decide ((0:Int)<=-1)=false:=by decide
    have HOJ:=hid hoj;clear hoj;go_wp2_with fail;obtain ⟨W1,hW1⟩:∃W1,wr.alloc (.cells #[tq f.name,sc f.p f.txt.length f.cap] 45)=W1:=⟨_,rfl⟩;have hgr1:Below wr.heap.size wr W1:=by rw [<-hW1];exact (Below.refl _ _).alloc (Nat.le_refl _) _
    have b0:W1.cell? (aa wr.heap.size 0)=some (tq f.name):=by rw [<-hW1];simp
    have b1:W1.cell? (aa wr.heap.size 1)=some (sc f.p f.txt.length f.cap):=by rw [<-hW1];simp
    have HOJ1:=hid (HOJ.out.on hgr1);have HFI1:=hid (HFI.out.kept hgr1);have HB1:=hid (HB.out.trans (hgr1.mono hsz));have HJS:Hid (wC (([]:List Fx).map Fx.fld) f.fld=(([]:List Fx).map Fx.fld)++[f.fld]):=rfl;rw [hW1];clear c0 c1 hgr1 hW1
    ·go_quiet (fail)
     go_wp2_with fail
     have b0':(W1.drewN nq).cell? (aa wr.heap.size 0)=some (tq f.name):=b0;have b1':(W1.drewN nq).cell? (aa wr.heap.size 1)=some (sc f.p f.txt.length f.cap):=b1;have HOJ2:Hid (uW w2.heap.size (W1.drewN nq).drew (sc p4 0 cp4) []):=HOJ1.out;have HFI2:Hid (f.at (W1.drewN nq)):=HFI1.out;have HB3:Hid (Below w2.heap.size w2 (W1.drewN nq).drew):=(zP HB1.out nq).drew;clear b0 b1
     generalize W1.drewN nq=W2 at b0' b1' HOJ2 HFI2 HB3 ⊢
     have F0:Hid (∀w':World,Below W2.drew.heap.size W2.drew w'->w'.cell? (aa wr.heap.size 0)=some (tq f.name)/\w'.cell? (aa wr.heap.size 1)=some (sc f.p f.txt.length f.cap)):=fun w' hb=>⟨(hb.cell (p:=(aa wr.heap.size 0)) (zJ (w:=W2.drew) b0')).trans b0',(hb.cell (p:=(aa wr.heap.size 1)) (zJ (w:=W2.drew) b1')).trans b1'⟩
     have HCT:=hid (zBf f.p f.cap f.txt W2.drew HFI2.out (by have:=HBND.out;omega));have hFl:wr.heap.size<W2.heap.size:=zJ b0'
     have FA:Hid (∀w3 w4:World,(w3.cell? (aa wr.heap.size 0)=some (tq f.name)/\w3.cell? (aa wr.heap.size 1)=some (sc f.p f.txt.length f.cap))->w3.grownBy w4 (Value.slice p4 0 cp4).ownBlock->w4.cell? (aa wr.heap.size 0)=some (tq f.name)/\w4.cell? (aa wr.heap.size 1)=some (sc f.p f.txt.length f.cap)):=fun w3 w4 h hg =>
      ⟨(hg.cell_far (aa wr.heap.size 0) (zJ h.1) (fun e=>Nat.lt_irrefl _ (HUL.out _ e.symm))).trans h.1,(hg.cell_far (aa wr.heap.size 1) (zJ h.2) (fun e=>Nat.lt_irrefl _ (HUL.out _ e.symm))).trans h.2⟩
     go_region_held3 (fun w'=>w'.cell? (aa wr.heap.size 0)=some (tq f.name)/\w'.cell? (aa wr.heap.size 1)=some (sc f.p f.txt.length f.cap))
      (first|exact ⟨b0',b1'⟩|exact q5|exact q6|exact q7)
      (first
       | (go_at_call 188;refine HCT.out.mono ?_;rintro e w5 ⟨sv,rfl,hot5,hb5⟩;obtain ⟨pc,capc,rfl⟩:=tF hot5;have q5:=F0.out w5 hb5;have hb6:Below W2.drew.heap.size W2.drew (w5.alloc (.cells #[tq f.name,sc pc f.txt.length capc] 45)):=Below.alloc hb5 hb5.size _;have q6:=F0.out _ hb6;have hoj6:uW w2.heap.size (w5.alloc (.cells #[tq f.name,sc pc f.txt.length capc] 45)) (Value.slice p4 0 cp4) ([]:List Fx):=uW.on (w:=W2.drew) HOJ2.out hb6;have hnew6:zNX (w5.alloc (.cells #[tq f.name,sc pc f.txt.length capc] 45)) w5.heap.size ⟨f.name,pc,capc,f.txt⟩:=heap_alloc_new w5 _;have hbase6:w2.heap.size<=(w5.alloc (.cells #[tq f.name,sc pc f.txt.length capc] 45)).heap.size:=Nat.le_trans HB3.out.size hb6.size)
       | (refine zCl _ (by rfl) (.tmp 45) (.tmp 52) (by rfl) w2.heap.size (Value.slice p4 0 cp4) ([]:List Fx) 0 (by rfl) (by assumption) (by simp) _ _ (by rfl) (by assumption) (by have:=HL2.out;omega) (by assumption) ?_;intro g7 cap7 w7 hown7 hg7;have q7:=FA.out _ _ (by assumption) hg7))
     have hoj7:=fW (x:=⟨f.name,pc,capc,f.txt⟩) (M:=W2.drew.heap.size) hoj6 (yV.on hot5 ((Below.refl _ _).alloc (Nat.le_refl _) _)) (fun y hy k hk=>(World.ownsRow.lt (HOJ2.out.1.2 y hy) k hk).2) HB3.out.size hown7 hg7;have HB7:Hid (Below w2.heap.size w2 w7):=(HB3.out.trans (hb6.mono HB3.out.size)).grown hg7 hbase6 (fun k hk=>(World.ownsRow.lt hoj6.1.1 k hk).1);have HOJ7:=hid hoj7;clear hoj7 hown7 hg7 hoj6 hnew6 hot5 hb5 hb6 q5 q6 q7;go_wp2_with fail;go_roundg (ds.length-(i+1))
     case measure=>omega
     refine ⟨i+1,by go_num,by omega,by omega,_,HOJ7.out,?_,HB7.out⟩;rw [HNX.out,HJS.out,List.map_append];rfl
   ·rw [List.concat_eq_append] at *;obtain ⟨go,cp,rfl,hNgo,hgol⟩:=hoj.1.1.form (by simp);have hol:(o'++[x]).length=o'.length+1:=by simp
    rw [hol] at hoj ⊢ holen
    have hgo0:wr.cell? (aa go (o'.length * 2))=some (tq x.name):=by
     have h1:=hoj.1.1;rw [hol] at h1;have h2:=qE (o'++[x]) o'.length (by simp);simp only [List.getElem_concat_length] at h2;rw [h1.cellAt _ (by omega)];exact h2.1
    have hgo1:wr.cell? (aa go (o'.length * 2+1))=some (sc x.p x.txt.length x.cap):=by
     have h1:=hoj.1.1;rw [hol] at h1;have h2:=qE (o'++[x]) o'.length (by simp);simp only [List.getElem_concat_length] at h2;rw [h1.cellAt _ (by omega)];exact h2.2
    have hz:(o'.length:Int)+1-1=(o'.length:Int):=by omega
    have z1:(0:Int)<=(o'.length:Int):=by omega
    have z2:(o'.length:Int)<(o'.length:Int)+1:=by omega
    have z3:o'.length<=9223372036854775806:=by omega
    have HOJ:=hid hoj;clear hoj;go_wp2_with fail;obtain ⟨W1,hW1⟩:∃W1,wr.alloc (.cells #[tq f.name,sc f.p f.txt.length f.cap] 45)=W1:=⟨_,rfl⟩;have hgr1:Below wr.heap.size wr W1:=by rw [<-hW1];exact (Below.refl _ _).alloc (Nat.le_refl _) _
    have b0:W1.cell? (aa wr.heap.size 0)=some (tq f.name):=by rw [<-hW1];simp
    have b1:W1.cell? (aa wr.heap.size 1)=some (sc f.p f.txt.length f.cap):=by rw [<-hW1];simp
    have r0:W1.cell? (aa go (o'.length * 2))=some (tq x.name):=(hgr1.cell (p:=(aa go (o'.length * 2))) hgol).trans hgo0;have r1:W1.cell? (aa go (o'.length * 2+1))=some (sc x.p x.txt.length x.cap):=(hgr1.cell (p:=(aa go (o'.length * 2+1))) hgol).trans hgo1;have HOJ1:=hid (HOJ.out.on hgr1);have HFI1:=hid (HFI.out.kept hgr1);have HB1:=hid (HB.out.trans (hgr1.mono hsz));rw [hW1];clear c0 c1 hgo0 hgo1 hgr1 hW1
    cases hq:(x.name.toList==f.name.toList) with
    | true =>
     have hnm:x.name=f.name:=by rw [gS,decide_eq_true_eq] at hq;exact hq
     have HJS:Hid (wC ((o'++[x]).map Fx.fld) f.fld=(o'.map Fx.fld)++[(x.name,x.txt++f.txt)]):=by
      show _=_
      rw [List.map_append];exact tL _ _ _ hnm
     have hxt:x.txt.length+f.txt.length<=vN ((o'++[x]).map Fx.fld)+f.txt.length:=by
      have:=zBl (fs:=(o'++[x]).map Fx.fld) (f:=x.fld) (List.mem_map.2 ⟨x,by simp,rfl⟩);simp only [Fx.fld] at this;omega
     have hxb:(x.txt.length+f.txt.length) * 16<=140737488355328:=by have:=HBND.out;omega
     clear hxt hnm
     go_quiet (fail)
     go_wp2_with fail
     have b1':(W1.drewN nq).cell? (aa wr.heap.size 1)=some (sc f.p f.txt.length f.cap):=b1;have r1':(W1.drewN nq).cell? (aa go (o'.length * 2+1))=some (sc x.p x.txt.length x.cap):=r1;have HOJ2:Hid (uW w2.heap.size (W1.drewN nq).drew (sc (some (aa go 0)) (o'.length+1) cp) (o'++[x])):=HOJ1.out;have HFI2:Hid (f.at (W1.drewN nq)):=HFI1.out;have HB3:Hid (Below w2.heap.size w2 (W1.drewN nq).drew):=(zP HB1.out nq).drew;clear b0 b1 r0 r1
     generalize W1.drewN nq=W2 at b1' r1' HOJ2 HFI2 HB3 ⊢
     have fz:W2.frozen? (aa go (o'.length * 2+1))=false:=by
      have h1:=HOJ2.out.1.1;rw [hol] at h1;exact h1.frozenAt _
     by_cases hf0:f.txt=[]
     ·have hf0l:f.txt.length=0:=by rw [hf0];rfl
      have HSH:=hid (zLU (HOJ2.out.1.2 x (by simp)));have HOK:=hid (zGG HOJ2.out);rw [hf0l] at b1' ⊢
      go_region_law (first
       | (refine zI8 _ (by rfl) (.tmp 39) (.tmp 41) (by rfl) x.p x.txt.length x.cap f.p f.cap (by rfl) HSH.out.1 (by rfl) HSH.out.2 ?_))
      all_goals
       go_wp2_with fail
       go_roundg (ds.length-(i+1))
       case measure=>omega
       refine ⟨i+1,by go_num,by omega,by omega,o'++[x],HOK.out,?_,HB3.out.setCell (p:=(aa go (o'.length * 2+1))) hNgo _⟩;rw [HNX.out,HJS.out,hf0,List.append_nil,List.map_append];rfl
     ·obtain ⟨b,off,hfp,hcl⟩:∃b off,f.p=some (aa b off)/\∀i,(h:i<f.txt.length)->W2.cell? (aa b (off+i))=some (tq f.txt[i]):=by
       rcases HFI2.out with h|h
       ·exact absurd h hf0
       ·exact h
      have hpos:0<f.txt.length:=List.length_pos_iff.2 hf0;rw [hfp] at b1' ⊢;have HOT:Hid (yV w2.heap.size W2.drew x.sl x.txt):=HOJ2.out.1.2 x (by simp)
      have HCL:Hid (∀j u,(f.txt.map Value.string)[j]? = some u->W2.drew.cell? (((aa b off):Addr).add j)=some u):=fun j u hj=>by
       rw [addr_add];have hjl:j<f.txt.length:=by have:=(List.getElem?_eq_some_iff.1 hj).1;simpa using this
       rw [List.getElem?_map,List.getElem?_eq_getElem hjl] at hj;rw [<-Option.some.inj hj];exact hcl j hjl
      have HNB:Hid (w2.heap.size<=W2.drew.heap.size):=HB3.out.size;clear hcl
      go_region_law (first
       | (refine step_append_lies _ (by rfl) (.tmp 39) (.tmp 41) 43 (by rfl) w2.heap.size 9 i0 (tq ⟨#[]⟩) 1 16 Tryz.underlying43 HI.out hz0 hz1 hz2 rfl (by decide) x.sl x.txt.length (x.txt.map Value.string) (by rfl) HOT.out (aa b off) f.txt.length f.cap (f.txt.map Value.string) (by rfl) (by simp) HCL.out (by intro u hu;obtain ⟨t,_,rfl⟩:=List.mem_map.1 hu;rfl) hpos (by unfold maxLen;omega) hxb HNB.out _ rfl ?_;intro g4 cap4 w4 hown4 hg4 hat4 hlt4;obtain ⟨k1,k2,hoj4⟩:=zDX HOJ2.out hown4 hg4 hat4))
      all_goals
       have HOJ4:=hid hoj4;have HB4:Hid (Below w2.heap.size w2 w4):=HB3.out.grown hg4 HNB.out (fun k hk=>(World.ownsRow.lt HOT.out k hk).1);clear hoj4 hown4 hg4 hat4;go_wp2_with fail;go_roundg (ds.length-(i+1))
       case measure=>omega
       refine ⟨i+1,by go_num,by omega,by omega,_,HOJ4.out,?_,HB4.out.setCell (p:=(aa go (o'.length * 2+1))) hNgo _⟩;rw [HNX.out,HJS.out,List.map_append];rfl
    | false =>
     have hnm:x.name≠f.name:=by rw [gS,decide_eq_false_iff_not] at hq;exact hq
     have HJS:Hid (wC ((o'++[x]).map Fx.fld) f.fld=((o'++[x]).map Fx.fld)++[f.fld]):=by
      show _=_
      rw [List.map_append];exact uZ _ _ _ hnm
     clear hnm
     go_quiet (fail)
     go_wp2_with fail
     have b0':(W1.drewN nq).cell? (aa wr.heap.size 0)=some (tq f.name):=b0;have b1':(W1.drewN nq).cell? (aa wr.heap.size 1)=some (sc f.p f.txt.length f.cap):=b1;have HOJ2:Hid (uW w2.heap.size (W1.drewN nq).drew (sc (some (aa go 0)) (o'.length+1) cp) (o'++[x])):=HOJ1.out;have HFI2:Hid (f.at (W1.drewN nq)):=HFI1.out;have HB3:Hid (Below w2.heap.size w2 (W1.drewN nq).drew):=(zP HB1.out nq).drew;clear b0 b1 r0 r1
     generalize W1.drewN nq=W2 at b0' b1' HOJ2 HFI2 HB3 ⊢
     have F0:Hid (∀w':World,Below W2.drew.heap.size W2.drew w'->w'.cell? (aa wr.heap.size 0)=some (tq f.name)/\w'.cell? (aa wr.heap.size 1)=some (sc f.p f.txt.length f.cap)):=fun w' hb=>⟨(hb.cell (p:=(aa wr.heap.size 0)) (zJ (w:=W2.drew) b0')).trans b0',(hb.cell (p:=(aa wr.heap.size 1)) (zJ (w:=W2.drew) b1')).trans b1'⟩
     have HCT:=hid (zBf f.p f.cap f.txt W2.drew HFI2.out (by have:=HBND.out;omega));have hFl:wr.heap.size<W2.heap.size:=zJ b0'
     have FA:Hid (∀w3 w4:World,(w3.cell? (aa wr.heap.size 0)=some (tq f.name)/\w3.cell? (aa wr.heap.size 1)=some (sc f.p f.txt.length f.cap))->w3.grownBy w4 (Value.slice (some (aa go 0)) (o'.length+1) cp).ownBlock->w4.cell? (aa wr.heap.size 0)=some (tq f.name)/\w4.cell? (aa wr.heap.size 1)=some (sc f.p f.txt.length f.cap)):=fun w3 w4 h hg =>
      ⟨(hg.cell_far (aa wr.heap.size 0) (zJ h.1) (fun e=>by have:wr.heap.size=go:=(by simpa [Value.ownBlock] using e);omega)).trans h.1,(hg.cell_far (aa wr.heap.size 1) (zJ h.2) (fun e=>by have:wr.heap.size=go:=(by simpa [Value.ownBlock] using e);omega)).trans h.2⟩
     go_region_held3 (fun w'=>w'.cell? (aa wr.heap.size 0)=some (tq f.name)/\w'.cell? (aa wr.heap.size 1)=some (sc f.p f.txt.length f.cap))
      (first|exact ⟨b0',b1'⟩|exact q5|exact q6|exact q7)
      (first
       | (go_at_call 188;refine HCT.out.mono ?_;rintro e w5 ⟨sv,rfl,hot5,hb5⟩;obtain ⟨pc,capc,rfl⟩:=tF hot5;have q5:=F0.out w5 hb5;have hb6:Below W2.drew.heap.size W2.drew (w5.alloc (.cells #[tq f.name,sc pc f.txt.length capc] 45)):=Below.alloc hb5 hb5.size _;have q6:=F0.out _ hb6;have hoj6:uW w2.heap.size (w5.alloc (.cells #[tq f.name,sc pc f.txt.length capc] 45)) (Value.slice (some (aa go 0)) (o'.length+1) cp) (o'++[x]):=uW.on (w:=W2.drew) HOJ2.out hb6;have hnew6:zNX (w5.alloc (.cells #[tq f.name,sc pc f.txt.length capc] 45)) w5.heap.size ⟨f.name,pc,capc,f.txt⟩:=heap_alloc_new w5 _;have hbase6:w2.heap.size<=(w5.alloc (.cells #[tq f.name,sc pc f.txt.length capc] 45)).heap.size:=Nat.le_trans HB3.out.size hb6.size)
       | (refine zCl _ (by rfl) (.tmp 45) (.tmp 52) (by rfl) w2.heap.size (Value.slice (some (aa go 0)) (o'.length+1) cp) (o'++[x]) (o'.length+1) (by rfl) (by assumption) (by simp) _ _ (by rfl) (by assumption) (by have:=HL2.out;omega) (by assumption) ?_;intro g7 cap7 w7 hown7 hg7;have q7:=FA.out _ _ (by assumption) hg7))
     have hoj7:=fW (x:=⟨f.name,pc,capc,f.txt⟩) (M:=W2.drew.heap.size) hoj6 (yV.on hot5 ((Below.refl _ _).alloc (Nat.le_refl _) _)) (fun y hy k hk=>(World.ownsRow.lt (HOJ2.out.1.2 y hy) k hk).2) HB3.out.size (by rw [hol];exact hown7) hg7;have HB7:Hid (Below w2.heap.size w2 w7):=(HB3.out.trans (hb6.mono HB3.out.size)).grown hg7 hbase6 (fun k hk=>(World.ownsRow.lt hoj6.1.1 k hk).1);have HOJ7:=hid hoj7;clear hoj7 hown7 hg7 hoj6 hnew6 hot5 hb5 hb6 q5 q6 q7;go_wp2_with fail;go_roundg (ds.length-(i+1))
     case measure=>omega
     refine ⟨i+1,by go_num,by omega,by omega,_,HOJ7.out,?_,HB7.out⟩;rw [HNX.out,HJS.out,List.map_append];rfl
  ·have hltz:¬ (i:Int)<(ds.length:Int):=by omega
   obtain rfl:i=ds.length:=by omega
   have HP:Hid (uW w2.heap.size wr u4 o/\o.map Fx.fld=wN (ds.map Fx.fld)/\Below w2.heap.size w2 wr):=by
    rw [List.take_of_length_le (by simp)] at hmap;exact ⟨hoj,hmap,hb⟩
   clear hoj hmap hb;go_wp2_with fail;go_ret;obtain ⟨h1,h2,h3⟩:=HP.out;have hsz:=HB2.out.size;exact ⟨_,ds,o,rfl,HSO.out,⟨⟨own_weak h1.1.1 hsz,fun x hx=>own_weak (h1.1.2 x hx) hsz⟩,h1.2⟩,h2,HB2.out.trans (h3.mono hsz)⟩
end
end Go.Proofs.YtjeogllmpjihaaaGreatDoor
