/- A part of the proof. -/
import Derived.Test.YtkhljboeffhciaaGreatProg
import Derived.WalkKit
import Derived.Below
import Derived.Sort.LotA
import Derived.Lib.Bytealg
import GoSem.Claim
import Derived.WalkSpells
import Derived.WalkLawsBesides
import Derived.Laws.Rows
import Derived.Deep.LoopGhost
import Derived.Deep.QuietTactic
import Derived.Deep.DrawnRows
import Derived.Deep.RegionHeld3
import Derived.Deep.AppendLies
import Derived.BigQuiet
import Derived.BigRegion
import Derived.LoopN
import Derived.OwnWalk
import Derived.Laws.OwnMore
import Derived.Laws.MakeOwn
import Derived.Shelf.SlSortCmp.QuietGrown
import Derived.Shelf.Small.Bits
import Derived.Shelf.Small.Strs
import Derived.Shelf.Small.Wraps
import Derived.Shelf.Strconv.Itoa0
import Derived.Shelf.Strings.Search1
import Derived.Shelf.Strings.Search2
import Derived.Shelf.Strings.Search3
import Derived.Shelf.Strings.Prefix
import Derived.Ground.Names2Prog
import Derived.Shelf.Slices.Clone
import Derived.Ground.SlgnProg
import Derived.Shelf.SlicesE.Clone
import Derived.Ground.SlgfProg
import Derived.Shelf.SlicesE.IndexFunc
import Derived.Shelf.SlGeneric
import Derived.Shelf.SlicesQ.IndexFunc
import Derived.Shelf.SlSortCmp.InsertionK
import Derived.Ground.NamesProg
import Derived.Shelf.Lays
import Derived.Ground.SlgqProg
import Derived.Ground.SlsfProg
import Derived.Shelf.SlLaysE0
import Derived.Shelf.SlLaysF0
import Derived.Shelf.SlLaysH0
import Derived.Shelf.SlLaysQ
import Derived.Shelf.SlSortCmp.SmallK
import Derived.Shelf.SlicesQ.Contains
import Derived.Shelf.SlicesQ.Equal
import Derived.Shelf.SlSortCmp.KitK
import Derived.Lib.Strings
import Derived.Sort.WalkB2
import Derived.Sort.WalkB12
import Derived.Deep.CutRange
import Derived.Laws.CopyOwn
import Derived.Maps.AppendAt
import Derived.Test.YtkhljboeffhciaaGreatRows
import Derived.MakeChecks
import Derived.ProofKit
import Derived.OpenShut
import Derived.Lay
import Derived.Stop.Joined
import Derived.SliceStrings
import Derived.Deep.SlicePairs
import Derived.Lib.LaidU8
import Derived.SizedLaws
import Derived.ChangeSlices
import Derived.JoinedCond
import Derived.Lib.SmallJoins
import Derived.ShutString
import Derived.Deep.DeepHandedRow
import Derived.Lib.IndexBytes
import Derived.Laws.StructEq
import Derived.Lib.SliceRun
import Derived.Shelf.SlSortCmp.WholeK
import Derived.Shelf.GgSortFunc.RowK
import Derived.Lib.SlicesCompact
import Derived.RangeFuncNested
import Derived.RangeFuncBound
import Derived.RangeFuncCalls
import Derived.RangeFuncLeaves
import Derived.Test.YtkhljboeffhciaaGreatChecked
import Derived.Maps.OwnSet
import Derived.Maps.OwnOps
import Derived.Maps.Views
import Derived.Maps.RangeWalk
import Derived.Sort.MapsRangeIn
import Derived.DeepKeys4
import Derived.Lib.AppendStr
set_option maxHeartbeats 40000000
set_option maxRecDepth 100000
set_option linter.unusedSimpArgs false
open Go.RowKit Go.Proofs.Tryz
namespace Go.Proofs.YtkhljboeffhciaaGreat
abbrev _root_.Go.World.z (w:World):Nat:=w.heap.size
abbrev _root_.ByteArray.L (s:ByteArray):List UInt8:=s.data.toList
abbrev aa (b o:Nat):Addr:=⟨b,o,none⟩
abbrev ii (k:Int):Value:=.int .i64 k
abbrev iu (k:Int):Value:=.int .u64 k
abbrev tq (s:ByteArray):Value:=.string s
abbrev sc (p:Option Addr) (n c:Nat):Value:=.slice p n c
abbrev jp (b:Nat):Value:=.pointer (some ⟨b,0,none⟩)
abbrev oc (cs:Array Value) (T:TypeId):Obj:=.cells cs T (0,0)
abbrev Bw (w w':World):Prop:=Go.RowKit.Below w.heap.size w w'
theorem _root_.Go.RowKit.Hid.o {p:Prop} (h:Go.RowKit.Hid p):p:=h
abbrev CC:=Calls Tryz.prog
theorem eE {α:Sort _} (a:α):∃x,a=x:=⟨a,rfl⟩
theorem gA {α:Type} {xs:Array α} {i:Nat} {b:α} (h:xs[i]? = some b):∃hi:i<xs.size,xs[i]=b:=Array.getElem?_eq_some_iff.1 h
theorem gL {α:Type} {xs:List α} {i:Nat} {b:α} (h:xs[i]? = some b):∃hi:i<xs.length,xs[i]=b:=List.getElem?_eq_some_iff.1 h
abbrev zaC:=@Lib.cell_of_heap
abbrev zaF:=@Lib.frozen_of_heap
abbrev zaL:=@Nat.le_refl
abbrev zaR:=@Below.refl
abbrev zaT:=@Nat.lt_of_lt_of_le
abbrev zaU:=@Nat.le_trans
abbrev zaW:=@World.ownsRow.lt
abbrev zaM:=@List.length_map
abbrev zaK:=@List.take_succ_eq_append_getElem
abbrev zaN:=@List.getElem_mem
abbrev zaB:=@bodyPost_ret
theorem zaG {α:Type} {a:α} {s t:List α} (h:a∈s∨a∈t):a∈s++t:=List.mem_append.2 h
abbrev zaH:=@List.mem_cons_self
abbrev zaP:=@Option.some.inj
abbrev xaa:=@heap_setCell_same
abbrev xab:=@heap_alloc_new
abbrev xac:=@Or.inl
abbrev xad:=@congrArg
abbrev xae:=@if_pos
abbrev xaf:=@Or.inr
abbrev xag:=@if_neg
abbrev xah:=@List.length_append
abbrev xai:=@List.getElem?_eq_getElem
abbrev xaj:=@List.take_of_length_le
abbrev xak:=@List.map_append
abbrev xal:=@List.foldl_cons
abbrev xam:=@IntKind.wrap_i64
abbrev xan:=@List.Pairwise.nil
abbrev xao:=@AllReadyH.cons
abbrev xap:=@World.cell?_of_block
abbrev xaq:=@List.foldl_nil
abbrev xar:=@decide_eq_false
abbrev xas:=@decide_eq_true
abbrev xau:=@AllReadyH.nil
abbrev xav:=@rounds_succ
abbrev xaw:=@List.length_drop
abbrev xax:=@Nat.le_succ
abbrev xay:=@List.mem_cons_of_mem
abbrev xaz:=@List.getElem?_eq_none
abbrev xaA:=@wpAnyH_ready
abbrev xaB:=@Array.length_toList
abbrev xaC:=@heap_setCell_other
abbrev xaD:=@wp_loop_rounds
abbrev xaE:=@Nat.zero_le
abbrev xaF:=@List.pairwise_singleton
abbrev xaG:=@Below.heap_alloc
abbrev xaH:=@List.mem_singleton
abbrev xaI:=@List.mem_map_of_mem
abbrev xaJ:=@Nat.zero_add
abbrev xaK:=@List.mem_of_mem_drop
abbrev xaL:=@info_parts
abbrev xaM:=@of_decide_eq_true
abbrev xaN:=@List.filterMap_cons
abbrev xaO:=@Bool.eq_iff_iff
abbrev xaP:=@Bool.and_eq_true
abbrev xaQ:=@decide_eq_true_iff
abbrev xaR:=@enters_of
abbrev xaS:=@List.length_filter_le
abbrev xaT:=@List.getElem_drop
abbrev xaU:=@List.ext_getElem?
abbrev xaV:=@List.filter_append
abbrev xaW:=@List.length_set
abbrev xaX:=@List.length_singleton
abbrev xaY:=@List.getElem_append_left
abbrev xaZ:=@List.map_cons
abbrev xa0:=@decide_eq_false_iff_not
abbrev xa1:=@Nat.mul_le_mul_right
abbrev xa2:=@List.length_take
abbrev xa3:=@List.length_cons
abbrev xa4:=@List.getElem_map
abbrev xa5:=@decide_eq_true_eq
abbrev xa6:=@Calls.grown_of
abbrev xa7:=@List.getElem?_append_left
abbrev xa8:=@List.getElem?_take
abbrev xa9:=@List.getElem?_take_of_lt
abbrev xba:=@World.size_alloc
abbrev xbb:=@List.eq_nil_of_length_eq_zero
abbrev xbc:=@World.ownsRow.stored
abbrev xbd:=@Nat.lt_or_ge
abbrev xbe:=@List.nil_append
abbrev xbf:=@And.intro
abbrev xbg:=@Nat.eq_zero_or_pos
abbrev xbh:=@DataW.trod_int
abbrev xbi:=@List.length_nil
abbrev xbj:=@wpList_append_own
abbrev xbk:=@List.size_toArray
abbrev xbl:=@List.set_eq_of_length_le
abbrev xbm:=@List.length_filterMap_le
abbrev xbn:=@getElem!_pos
abbrev xbo:=@Int.le_refl
abbrev xbp:=@World.ownsRow.alloc
abbrev xbq:=@World.putObj_heap_other
abbrev xbr:=@List.filter_cons
abbrev xbs:=@List.cons.injEq
abbrev xbt:=@Lib.toList_data
abbrev xbu:=@wp_region_quiet_grown
abbrev xbv:=@Lib.run_eql_slice_nil
abbrev xbw:=@Array.getElem?_toList
abbrev xbx:=@World.ownsRow_nil
abbrev xby:=@List.getElem?_map
abbrev xbz:=@List.any_eq_false
abbrev xbA:=@Bool.not_eq_true'
abbrev xbB:=@Array.getElem?_append_left
abbrev xbC:=@List.pairwise_append
abbrev xbD:=@List.all_eq_true
abbrev xbE:=@Iff.rfl
abbrev xbF:=@all_oneCell_toArray
abbrev xbG:=@List.filter_sublist
abbrev xbH:=@wp_store_mid
abbrev xbI:=@Nat.lt_irrefl
abbrev xbJ:=@Option.map_some
abbrev xbK:=@List.headD_cons
abbrev xbL:=@List.append_nil
abbrev xbM:=@List.any_append
abbrev xbN:=@of_decide_eq_false
abbrev xbO:=@World.ownsRow_made
abbrev xbP:=@List.set_cons_zero
abbrev xbQ:=@Nat.add_mul
abbrev xbR:=@List.length_range
abbrev xbS:=@List.getElem?_set
abbrev xbT:=@DataW.trod_string
abbrev xbU:=@List.Perm.refl
abbrev xbV:=@results_none
abbrev xbW:=@List.map_map
abbrev xbX:=@_root_.Go.below_drewN
abbrev xbY:=@Nat.div_lt_iff_lt_mul
abbrev xbZ:=@List.take_append_drop
abbrev xb0:=@Array.getElem?_modify
abbrev xb1:=@run_storeCells_cells
abbrev xb2:=@Array.replicate_zero
abbrev xb3:=@Array.replicate_succ
abbrev xb4:=@beq_eq_false_iff_ne
abbrev xb5:=@List.map_congr_left
abbrev xb6:=@List.append_toArray
abbrev xb7:=@List.mem_or_eq_of_mem_set
abbrev xb8:=@Array.getElem?_eq_getElem
theorem zaQ {w:World} {o:Obj}:Below w.heap.size w (w.alloc o):=(Below.refl _ _).alloc (Nat.le_refl _) _
theorem sz {α:Type}:(∀(l:List α) (i:Nat) (y:α),l.toArray.setIfInBounds i y=(l.set i y).toArray)∧(∀(x y:α) (l:List α),(x::l).set 0 y=y::l)∧∀(x y:α) (l:List α) (i:Nat),(x::l).set (i+1) y=x::l.set i y :=
 ⟨fun l i y=>List.setIfInBounds_toArray l i y,fun _ _ _=>rfl,fun _ _ _ _=>rfl⟩
theorem cz {w:World} {b j:Nat} {cs:Array Value} {T:TypeId} {fr:Nat × Nat} {v:Value} (hb:w.heap[b]? = some (.cells cs T fr)) (hv:cs[j]? = some v:=by rfl):w.cell? ⟨b,j,none⟩=some v:=by
 simp only [World.cell?,hb];exact hv
theorem zSY {w:World} {b:Nat} {T:TypeId} {fr:Nat × Nat} {c0 c1 c2 c3 c4 c5 c6 c7 c8 c9:Value} (h:w.heap[b]? = some (.cells #[c0,c1,c2,c3,c4,c5,c6,c7,c8,c9] T fr)):w.cell? ⟨b,0,none⟩=some c0∧w.cell? ⟨b,1,none⟩=some c1∧w.cell? ⟨b,2,none⟩=some c2∧w.cell? ⟨b,3,none⟩=some c3∧w.cell? ⟨b,4,none⟩=some c4∧w.cell? ⟨b,5,none⟩=some c5∧w.cell? ⟨b,6,none⟩=some c6∧w.cell? ⟨b,7,none⟩=some c7∧w.cell? ⟨b,8,none⟩=some c8∧w.cell? ⟨b,9,none⟩=some c9:=⟨cz h,cz h,cz h,cz h,cz h,cz h,cz h,cz h,cz h,cz h⟩
section
open Go.Sort
section
variable {s m e i:Nat}
set_option linter.unusedSectionVars false
variable {α:Type} [Inhabited α] {κ:Type} [DecidableEq κ]
def pZ (K:α->κ) (d d':Array α):Prop:=∀c,d'.toList.filter (fun x=>decide (K x=c))=d.toList.filter (fun x=>decide (K x=c))
theorem pZ.refl (K:α->κ) (d:Array α):pZ K d d:=fun _=>rfl
theorem pZ.trans {K:α->κ} {d a b:Array α} (h:pZ K d a) (f:pZ K a b):pZ K d b:=fun c=>(f c).trans (h c)
def Rot (s m e:Nat) (d d':Array α):Prop:=d'.size=d.size/\(∀t,t<e-m->d'[s+t]! = d[m+t]!)/\(∀t,t<m-s->d'[s+(e-m)+t]! = d[s+t]!)/\(∀i,i<s∨e<=i->d'[i]! = d[i]!)
theorem zAb (d:Array α):d.toList=(List.range' 0 d.size).map (fun i=>d[i]!):=by
 have h:=extract_toList d 0 d.size (zaL _)
 simp_all
theorem uF (s k l:Nat):List.range' s (k+l)=List.range' s k++List.range' (s+k) l:=by
 rw [<-List.range'_append_1]
theorem xZ (f g:Nat->α) (s a n:Nat) (h:∀t,t<n->f (s+t)=g (a+t)):(List.range' s n).map f=(List.range' a n).map g:=by
 apply List.ext_getElem
 ·simp
 grind
theorem Rot.parts {d b:Array α} (h:Rot s m e d b) (l:s<=m) (g:m<=e) (n:e<=d.size):∃A L R B:List α,d.toList=A++L++R++B/\b.toList=A++R++L++B/\L=(List.range' s (m-s)).map (fun i=>d[i]!)/\R=(List.range' m (e-m)).map (fun i=>d[i]!):=by
 obtain ⟨c,f,j,k⟩:=h;refine ⟨(List.range' 0 s).map (fun i=>d[i]!),_,_,(List.range' e (d.size-e)).map (fun i=>d[i]!),?_,?_,rfl,rfl⟩
 ·rw [zAb];have a:d.size=s+(m-s)+(e-m)+(d.size-e):=by omega
  conv=>lhs;rw [a]
  rw [uF,uF,uF];simp only [xak];rw [show 0+s=s by omega,show 0+(s+(m-s))=m by omega,show 0+(s+(m-s)+(e-m))=e by omega]
 rw [zAb,c];have a:d.size=s+(e-m)+(m-s)+(d.size-e):=by omega
 conv=>lhs;rw [a]
 rw [uF,uF,uF];simp only [xak];rw [show 0+s=s by omega,show 0+(s+(e-m))=s+(e-m) by omega,show 0+(s+(e-m)+(m-s))=e by omega]
 congr 1
 ·congr 1
  ·congr 1
   ·grind [xZ]
   grind [xZ]
  grind [xZ]
 grind [xZ]
theorem Rot.stab {K:α->κ} {d a:Array α} (h:Rot s m e d a) (g:s<=m) (f:m<=e) (k:e<=d.size)
  (hK:∀i j,s<=i->i<m->m<=j->j<e->K d[i]!≠K d[j]!):pZ K d a:=by
 obtain ⟨A,L,R,B,b,n,q,o⟩:=h.parts g f k;intro c;rw [b,n];simp only [xaV]
 have:L.filter (fun x=>decide (K x=c))=[]∨R.filter (fun x=>decide (K x=c))=[]:=by
  rcases hl:L.filter (fun x=>decide (K x=c)) with _|⟨x,l⟩
  ·grind
  right;have p:x∈L.filter (fun x=>decide (K x=c)):=by rw [hl];simp
  rw [List.filter_eq_nil_iff]
  grind
 grind
theorem Rot.perm {d a:Array α} (h:Rot s m e d a) (p:s<=m) (o:m<=e) (l:e<=d.size):PermIn s e d a:=by
 obtain ⟨j,f,g,k⟩:=h;refine ⟨j,k,?_⟩;rw [extract_toList _ _ _ (by omega),extract_toList _ _ _ l];have c:e-s=(m-s)+(e-m):=by omega
 have n:e-s=(e-m)+(m-s):=by omega
 conv=>lhs;rw [n]
 conv=>rhs;rw [c]
 rw [uF,uF];simp only [xak];rw [xZ (fun i=>a[i]!) (fun i=>d[i]!) s m (e-m) (fun t b=>f t b),xZ (fun i=>a[i]!) (fun i=>d[i]!) (s+(e-m)) s (m-s) (fun t b=>g t b),show s+(m-s)=m by omega];exact List.perm_append_comm
theorem zPy (d:Array α) (j:Nat) (h:j+1<d.size):Rot j (j+1) (j+2) d (swp d (j+1) j):=by
 refine ⟨size_swp _ _ _,fun t a=>?_,fun t a=>?_,fun i hi=>?_⟩
 ·grind [swp_right]
 ·grind [swp_left]
 grind [swp_other]
theorem cP {K:α->κ} {b:α->α->Bool} (c:∀x y,b x y=true->K x≠K y) (a:Nat):∀(j:Nat) (d:Array α),j<d.size->pZ K d (insInner b a j d)
 | 0,d,_=>pZ.refl K d
 | j+1,d,hj=>by
  unfold insInner
  split
  ·rename_i hc
   simp only [xaP,xa5] at hc;refine pZ.trans ((zPy d j hj).stab (by omega) (by omega) (by omega) fun i g h l f k=>?_) (cP c a j _ (by rw [size_swp];omega))
   grind
  exact pZ.refl K d
theorem dV {b:α->α->Bool} (a:Nat):∀(j:Nat) (d:Array α),(insInner b a j d).size=d.size
 | 0,d=>rfl
 | j+1,d=>by
  unfold insInner
  split
  ·rw [dV a j,size_swp]
  rfl
theorem dU {K:α->κ} {c:α->α->Bool} (f:∀x y,c x y=true->K x≠K y) (a b:Nat):∀(n i:Nat) (d:Array α),b-i<=n->b<=d.size->pZ K d (insOuter c a b i d)
 | 0,i,d,hn,hb=>by
  unfold insOuter;rw [xag (by omega)];exact pZ.refl K d
 | n+1,i,d,hn,hb=>by
  unfold insOuter
  split
  ·exact (cP f a i d (by omega)).trans (dU f a b n (i+1) _ (by omega) (by grind [dV]))
  exact pZ.refl K d
theorem cX {K:α->κ} {c:α->α->Bool} (g:∀x y,c x y=true->K x≠K y) (d:Array α) (a b:Nat) (f:b<=d.size):pZ K d (insertionSort c d a b):=dU g a b _ _ d (zaL _) f
theorem Rot.left {j:Nat} {d dk a:Array α} (q:s<=m) (n:m<=e) (hj:j=e-m) (k:j<=m-s) (c:dk.size=d.size) (o:∀t,t<j->dk[s+t]! = d[m+t]!) (p:∀t,t<j->dk[m+t]! = d[s+t]!)
  (h3:∀i,(i<s∨s+j<=i)->(i<m∨m+j<=i)->dk[i]! = d[i]!) (h:Rot (s+j) m e dk a):Rot s m e d a:=by
 obtain ⟨g,l,b,r⟩:=h;refine ⟨g.trans c,fun t f=>?_,fun t f=>?_,fun i hi=>?_⟩
 ·grind
 ·by_cases hlt:t<j
  ·grind
  have:=b (t-j) (by omega)
  grind
 grind
theorem Rot.right {d dk a:Array α} (q:s<=m) (o:m<=e) (hi:i=m-s) (n:i<=e-m) (k:dk.size=d.size) (f:∀t,t<i->dk[s+t]! = d[e-i+t]!) (p:∀t,t<i->dk[e-i+t]! = d[s+t]!)
  (h3:∀x,(x<s∨s+i<=x)->(x<e-i∨e<=x)->dk[x]! = d[x]!) (h:Rot s m (e-i) dk a):Rot s m e d a:=by
 obtain ⟨l,b,c,j⟩:=h;refine ⟨l.trans k,fun t g=>?_,fun t g=>?_,fun x r=>?_⟩
 ·by_cases hlt:t<e-i-m
  ·rw [b t hlt,h3 _ (by omega) (by omega)]
  have:=c (t-(e-i-m)) (by omega);rw [show s+t=s+(e-i-m)+(t-(e-i-m)) by omega,this,f _ (by omega)]
  congr 1;omega
 ·rw [j _ (by omega),show s+(e-m)+t=e-i+t by omega]
  grind
 grind
theorem Rot.even {d a:Array α} (hi:i=m-s) (k:s<=m) (h:m<=e) (g:i=e-m) (f:a.size=d.size) (b:∀t,t<i->a[s+t]! = d[m+t]!) (j:∀t,t<i->a[m+t]! = d[s+t]!)
  (h3:∀x,(x<s∨s+i<=x)->(x<m∨m+i<=x)->a[x]! = d[x]!):Rot s m e d a:=⟨f,fun t c=>b t (by omega),fun t c=>by grind,fun x l=>h3 x (by omega) (by omega)⟩
end
end
section
open Go.Sort
section
variable {a b i k m s e p:Nat}
set_option linter.unusedSectionVars false
variable {α:Type} [Inhabited α] {κ:Type} [DecidableEq κ]
def Mrg (lt:α->α->Bool) (K:α->κ) (a b:Nat) (d d':Array α):Prop:=PermIn a b d d'/\SortedIn lt a b d'/\pZ K d d'
theorem SWO.le_le {c:α->α->Bool} (d:SWO c) {x y z:α} (g:c y x=false) (f:c z y=false):c z x=false:=d.ntrans _ _ _ f g
theorem SWO.lt_le {c:α->α->Bool} (d:SWO c) {x y z:α} (g:c x y=true) (f:c z y=false):c x z=true:=by
 cases h:c x z
 ·exact absurd (d.ntrans _ _ _ h f) (by rw [g];simp)
 rfl
theorem SWO.le_lt {c:α->α->Bool} (d:SWO c) {x y z:α} (g:c y x=false) (f:c y z=true):c x z=true:=by
 cases h:c x z
 ·exact absurd (d.ntrans _ _ _ g h) (by rw [f];simp)
 rfl
theorem SortedIn.le {c:α->α->Bool} (n:SWO c) {a b:Nat} {d:Array α} (h:SortedIn c a b d) {i j:Nat} (g:a<=i) (o:i<=j) (f:j<b):c d[j]! d[i]! = false:=by
 rcases Nat.eq_or_lt_of_le o with rfl|l
 ·exact n.irrefl _
 exact h i j g l f
theorem Rot.shift_up {d dk:Array α} (h:Rot a (a+1) (k+1) d dk) (n:a<=k) (g:k+1<d.size):Rot a (a+1) (k+2) d (swp dk k (k+1)):=by
 obtain ⟨c,l,o,j⟩:=h;refine ⟨by rw [size_swp,c],fun t f=>?_,fun t f=>?_,fun i hi=>?_⟩
 ·grind [swp_other,swp_left]
 ·grind [swp_right]
 grind [swp_other]
theorem Rot.shift_down {d dk:Array α} (h:Rot (k+1) m (m+1) d dk) (o:k+1<=m) (j:m<d.size):Rot k m (m+1) d (swp dk (k+1) k):=by
 obtain ⟨c,n,f,l⟩:=h;refine ⟨by rw [size_swp,c],fun t g=>?_,fun t g=>?_,fun i hi=>?_⟩
 ·grind [swp]
 ·by_cases h0:t=0
  ·grind [swp_left]
  rw [swp_other _ _ _ _ (by omega) (by omega)];have:=f (t-1) (by omega)
  grind
 grind [swp_other]
theorem zHS (s m:Nat) (d:Array α):Rot s m m d d:=by
 refine ⟨rfl,fun t c=>by omega,fun t _=>by rw [show s+(m-m)+t=s+t by omega],fun _ _=>rfl⟩
theorem zEH (m e:Nat) (d:Array α):Rot m m e d d:=by
 refine ⟨rfl,fun t _=>rfl,fun t c=>by omega,fun _ _=>rfl⟩
theorem Rot.at1 {d c:Array α} (h:Rot s m e d c) {p:Nat} (g:s<=p) (f:p<s+(e-m)):c[p]! = d[p+(m-s)]!∨m<s:=by
 by_cases hms:m<s
 ·omega
 left;have:=h.2.1 (p-s) (by omega)
 grind
theorem Rot.lo {d c:Array α} (h:Rot s m e d c) (j:s<=m) {p:Nat} (f:s<=p) (g:p<s+(e-m)):c[p]! = d[p+(m-s)]!:=by
 rcases h.at1 f g with h|h
 ·exact h
 omega
theorem Rot.hi {d c:Array α} (h:Rot s m e d c) {p:Nat} (j:s+(e-m)<=p) (g:p<e) (f:m<=e):c[p]! = d[p-(e-m)]!:=by
 have:=h.2.2.1 (p-(s+(e-m))) (by omega)
 grind
theorem Rot.out {d c:Array α} (h:Rot s m e d c) {p:Nat} (f:p<s∨e<=p):c[p]! = d[p]!:=h.2.2.2 p f
theorem Rot.merge {c:α->α->Bool} {K:α->κ} (o:SWO c) (C:∀x y,c x y=true->K x≠K y) {a s m e b:Nat} {d n:Array α} (h:Rot s m e d n) (w:a<=s) (v:s<=m) (r:m<=e) (B:e<=b) (A:b<=d.size)
  (hL:SortedIn c a m d) (hR:SortedIn c m b d)
  (hlow:a<s->e<b->c d[e]! d[s-1]! = false) (hhigh:s<m->m<e->c d[e-1]! d[s]! = true):PermIn a b d n/\pZ K d n/\SortedIn c a s n/\SortedIn c s (s+(e-m)) n/\SortedIn c (s+(e-m)) e n/\SortedIn c e b n /\
   (∀p q,a<=p->p<s+(e-m)->s+(e-m)<=q->q<b->c n[q]! n[p]! = false):=by
 have z:∀i j,s<=i->i<m->m<=j->j<e->c d[j]! d[i]! = true:=fun i j l f g u=>by
  have t:=hhigh (by omega) (by omega);exact SWO.lt_le o (SWO.le_lt o (SortedIn.le o hR g (show j<=e-1 by omega) (by omega)) t) (SortedIn.le o hL w l f)
 have D:∀i j,a<=i->i<s->e<=j->j<b->c d[j]! d[i]! = false:=fun i j l f g u=>by
  have t:=hlow (by omega) (by omega);exact SWO.le_le o (SWO.le_le o (SortedIn.le o hL l (show i<=s-1 by omega) (by omega)) t) (SortedIn.le o hR r g u)
 refine ⟨permIn_mono _ _ _ _ _ _ w B A (h.perm v r (by omega)),h.stab v r (by omega) (fun i j l f g u e=>C _ _ (z i j l f g u) e.symm),fun i j l f g=>?_,fun i j l f g=>?_,fun i j l f g=>?_,fun i j l f g=>?_,fun p q l f g u=>?_⟩
 ·rw [h.out (xac (by omega)),h.out (xac (by omega))];exact hL i j l f (by omega)
 ·rw [h.lo v (by omega) (by omega),h.lo v (by omega) (by omega)];exact hR _ _ (by omega) (by omega) (by omega)
 ·rw [h.hi (by omega) (by omega) r,h.hi (by omega) (by omega) r];exact hL _ _ (by omega) (by omega) (by omega)
 ·rw [h.out (xaf (by omega)),h.out (xaf (by omega))];exact hR i j (by omega) f (by omega)
 by_cases c1:p<s
 ·rw [h.out (p:=p) (xac c1)]
  by_cases c2:q<e
  ·rw [h.hi g c2 r];grind [SortedIn.le]
  rw [h.out (xaf (by omega))];grind
 rw [h.lo (p:=p) v (by omega) f]
 by_cases c2:q<e
 ·rw [h.hi g c2 r];exact SWO.asymmA o (z _ _ (by omega) (by omega) (by omega) (by omega))
 rw [h.out (xaf (by omega))];grind [SortedIn.le]
theorem zD6 {d:α->α->Bool} {c:Nat} {l f h:Array α} (u:a<=c) (t:c<=b) (v:b<=l.size)
  (hX:∀p q,a<=p->p<c->c<=q->q<b->d l[q]! l[p]! = false) (p2:PermIn a c l f) (s2:SortedIn d a c f) (p3:PermIn c b f h) (s3:SortedIn d c b h):PermIn a b l h/\SortedIn d a b h:=by
 have y:=p2.1
 have w:∀q,c<=q->q<b->∀p,a<=p->p<c->d f[q]! f[p]! = false:=fun q n g=>by
  rw [p2.2.1 q (xaf n)];exact permIn_all l f a c (fun x=>d l[q]! x=false) (by omega) p2 (fun p o r=>hX p q o r n g)
 have z:∀p,a<=p->p<c->∀q,c<=q->q<b->d h[q]! h[p]! = false:=fun p n g=>by
  rw [p3.2.1 p (xac g)];exact permIn_all f h c b (fun x=>d x f[p]! = false) (by omega) p3 (fun q o r=>w q o r p n g)
 refine ⟨permIn_trans _ _ _ _ _ (permIn_mono _ _ _ _ _ _ (zaL _) t v p2) (permIn_mono _ _ _ _ _ _ u (zaL _) (by omega) p3),fun i j n g o=>?_⟩
 by_cases c1:i<c
 ·by_cases c2:j<c
  ·rw [p3.2.1 i (xac c1),p3.2.1 j (xac c2)];exact s2 i j n g c2
  grind
 exact s3 i j (by omega) g o
theorem Mrg.of_rot {c:α->α->Bool} {K:α->κ} (r:SWO c) (z:∀x y,c x y=true->K x≠K y) {a s m e b:Nat} {d g f j:Array α} (h:Rot s m e d g) (n:a<=s) (t:s<=m) (q:m<=e) (u:e<=b) (l:b<=d.size)
  (hL:SortedIn c a m d) (hR:SortedIn c m b d) (hlow:a<s->e<b->c d[e]! d[s-1]! = false) (hhigh:s<m->m<e->c d[e-1]! d[s]! = true)
  (m2:Mrg c K a (s+(e-m)) g f) (m3:Mrg c K (s+(e-m)) b f j):Mrg c K a b d j:=by
 obtain ⟨v,o,_,_,_,_,w⟩:=h.merge (K:=K) r z n t q u l hL hR hlow hhigh;obtain ⟨p2,s2,st2⟩:=m2;obtain ⟨p3,s3,st3⟩:=m3;obtain ⟨p,s⟩:=zD6 (by omega) (by omega) (by rw [h.1];exact l) w p2 s2 p3 s3;exact ⟨permIn_trans _ _ _ _ _ v p,s,o.trans (st2.trans st3)⟩
theorem Mrg.none {c:α->α->Bool} {K:α->κ} {d:Array α} (h:SortedIn c a b d):Mrg c K a b d d:=⟨permIn_refl _ _ _,h,pZ.refl K d⟩
theorem Mrg.one_left {c:α->α->Bool} {K:α->κ} (l:SWO c) (E:∀x y,c x y=true->K x≠K y) {a i b:Nat} {d o:Array α} (h:Rot a (a+1) i d o) (hi:a+1<=i) (D:i<=b) (w:b<=d.size) (t:SortedIn c (a+1) b d)
  (hlo:a+1<i->c d[i-1]! d[a]! = true) (hhi:i<b->c d[i]! d[a]! = false):Mrg c K a b d o:=by
 have B:SortedIn c a (a+1) d:=fun i j n f g=>by omega
 obtain ⟨z,u,_,r,_,C,A⟩:=h.merge (K:=K) l E (zaL _) (by omega) hi D w B t (fun h=>by omega) (fun _ h=>hlo h);refine ⟨z,fun p q n f g=>?_,u⟩;have v:a+(i-(a+1))=i-1:=by omega
 rw [v] at r A
 by_cases c1:p<i-1
 ·by_cases c2:q<i-1
  ·exact r p q n f c2
  grind
 by_cases c3:p=i-1
 ·rw [h.out (p:=q) (xaf (by omega)),h.hi (p:=p) (by omega) (by omega) hi,show p-(i-(a+1))=a by omega];exact SWO.le_le l (hhi (by omega)) (SortedIn.le l t (by omega) (show i<=q by omega) g)
 exact C p q (by omega) f g
theorem Mrg.one_right {c:α->α->Bool} {K:α->κ} (l:SWO c) (E:∀x y,c x y=true->K x≠K y) {a i m:Nat} {d o:Array α} (h:Rot i m (m+1) d o) (w:a<=i) (t:i<=m) (z:m+1<=d.size) (r:SortedIn c a m d)
  (hlo:a<i->c d[m]! d[i-1]! = false) (hhi:i<m->c d[m]! d[i]! = true):Mrg c K a (m+1) d o:=by
 have D:SortedIn c m (m+1) d:=fun i j f g u=>by omega
 obtain ⟨A,v,C,_,n,_,B⟩:=h.merge (K:=K) l E w t (by omega) (zaL _) z r D (fun _ h=>by omega) (fun h _=>by grind);rw [show i+(m+1-m)=i+1 by omega] at n B;refine ⟨A,fun p q f g u=>?_,v⟩
 by_cases c1:i+1<=q
 ·by_cases c2:i+1<=p
  ·exact n p q c2 g u
  grind
 by_cases c3:q=i
 ·rw [h.lo (p:=q) t (by omega) (by omega),h.out (p:=p) (xac (by omega)),show q+(m-i)=m by omega];exact SWO.le_le l (SortedIn.le l r f (show p<=i-1 by omega) (by omega)) (hlo (by omega))
 exact C p q f g (by omega)
end
end
theorem jH (a:List UInt8):Lib.compareBytes a a=0:=by
 induction a with
 | nil=>rfl
 | cons x a ih=>grind [Lib.compareBytes]
theorem mZ (a b:List UInt8):Lib.compareBytes a b=0↔a=b:=by
 constructor
 ·induction a generalizing b with
  | nil=>cases b with
   | nil=>intro _;rfl
   | cons y b=>grind [Lib.compareBytes]
  | cons x a ih=>cases b with
   | nil=>grind [Lib.compareBytes]
   | cons y b=>grind [Lib.compareBytes]
 grind [jH]
theorem zC6 (a b:List UInt8):Lib.compareBytes b a=- Lib.compareBytes a b:=by
 induction a generalizing b with
 | nil=>cases b<;>simp [Lib.compareBytes]
 | cons x a ih=>cases b with
  | nil=>simp [Lib.compareBytes]
  | cons y b=>grind [Lib.compareBytes]
theorem zHI (a b:List UInt8):Lib.compareBytes a b=-1∨Lib.compareBytes a b=0∨Lib.compareBytes a b=1:=by
 induction a generalizing b with
 | nil=>cases b<;>simp [Lib.compareBytes]
 | cons x a ih=>cases b with
  | nil=>simp [Lib.compareBytes]
  | cons y b=>grind [Lib.compareBytes]
theorem qN (a b c:List UInt8) (e:Lib.compareBytes a b<0) (d:Lib.compareBytes b c<0):Lib.compareBytes a c<0:=by
 induction a generalizing b c with
 | nil=>cases c with
  | nil=>cases b<;>simp [Lib.compareBytes] at e d
  | cons z c=>simp [Lib.compareBytes]
 | cons x a ih=>cases b with
  | nil=>simp [Lib.compareBytes] at e
  | cons y b=>cases c with
   | nil=>simp [Lib.compareBytes] at d
   | cons z c=>grind [Lib.compareBytes]
theorem zKI (a b:List UInt8):decide (Lib.compareBytes a b<0)=Op.bytesLess a b:=by
 induction a generalizing b with
 | nil=>cases b<;>simp [Lib.compareBytes,Op.bytesLess]
 | cons x a ih=>cases b with
  | nil=>simp [Lib.compareBytes,Op.bytesLess]
  | cons y b=>grind [Lib.compareBytes,Op.bytesLess]
def qQ (x y:Int):Int:=if x=0 then y else x
def kB (n:Int):Bool:=decide (65<=n)&&decide (n<=90)
def vU (n:Int):Bool:=decide (97<=n)&&decide (n<=122)
def zRf (n:Int):Bool:=decide (48<=n)&&decide (n<=57)
def nW (n:Int):Bool:=kB n||vU n
def mK (n:Int):Bool:=nW n||zRf n
def idB (n:Int):Bool:=mK n||n==45||n==46
def wS (f g:Int->Bool) (l:List UInt8):Bool:=match l with
 | []=>false
 | c::r=>decide (r.length+1<=32)&&f (c.toNat:Int)&&r.all fun x=>g (x.toNat:Int)
def zCv (l:List UInt8):Bool:=wS kB nW l
def zEZ (l:List UInt8):Bool:=wS idB idB l
def jB (l:List UInt8):Bool:=wS vU mK l
theorem pF (f g:Int->Bool) (s:ByteArray) (h:0<s.size):wS f g s.data.toList=(decide (s.size<=32)&&f (s[0].toNat:Int)&&(s.data.toList.drop 1).all fun x=>g (x.toNat:Int)):=by
 obtain ⟨⟨l⟩⟩:=s
 cases l with
 | nil=>exact absurd h (xbI 0)
 | cons c r=>rfl
theorem fA (f g:Int->Bool) (s:ByteArray) (h:s.size=0):wS f g s.data.toList=false:=by
 obtain ⟨⟨l⟩⟩:=s
 cases l with
 | nil=>rfl
 | cons c r=>exact absurd h (Nat.succ_ne_zero _)
theorem bO (f g:Int->Bool) (s:ByteArray) (h:32<s.size):wS f g s.data.toList=false:=by grind [pF]
theorem gC (f g:Int->Bool) (s:ByteArray) (h:0<s.size) (a:f (s[0].toNat:Int)=false):wS f g s.data.toList=false:=by grind [pF]
theorem zPs (s:ByteArray) (k:Nat) (h:k<s.size):s.data.toList[k]'(by simpa using h)=s[k]:=rfl
theorem zCJ (f g:Int->Bool) (s:ByteArray) (k:Nat) (d:1<=k) (h:k<s.size) (b:g (s[k].toNat:Int)=false):wS f g s.data.toList=false:=by
 rw [pF f g s (by omega)]
 have:((s.L.drop 1).all fun x=>g (x.toNat:Int))=false:=by
  rw [Bool.eq_false_iff];intro a;rw [xbD] at a;have e:k<s.L.length:=by simpa using h
  have c:s[k]∈s.L.drop 1:=by
   rw [<-zPs s k h,List.mem_iff_getElem];refine ⟨k-1,by grind,?_⟩;rw [xaT]
   congr 1
   omega
  have:=a _ c;rw [b] at this
  cases this
 grind
theorem bP (f g:Int->Bool) (s:ByteArray) (h:0<s.size) (d:s.size<=32) (c:f (s[0].toNat:Int)=true)
  (hg:∀k,1<=k->(hk:k<s.size)->g (s[k].toNat:Int)=true):wS f g s.data.toList=true:=by
 rw [pF f g s h]
 have:((s.L.drop 1).all fun x=>g (x.toNat:Int))=true:=by
  rw [xbD];intro x a;rw [List.mem_iff_getElem] at a;obtain ⟨j,hj,rfl⟩:=a;rw [xaT];have b:1+j<s.size:=by simp at hj;omega
  exact hg (1+j) (by omega) b
 grind
theorem hid {p:Prop} (h:p):Hid p:=h
theorem zH {a b:Bool} (h:a=b):Ending.returned (.bool a)=.returned (.bool b):=by rw [h]
theorem sK {k:IntKind} {a b:Int} (h:a=b):Ending.returned (.int k a)=.returned (.int k b):=by rw [h]
theorem zKO (n:Int) (w:World):CC 225 #[.int .u8 n] w fun e a=>e=.returned (.bool (kB n))/\a=w:=by
 go_enter func225,ntmps225
 go_wp2
 all_goals go_ret
 all_goals refine ⟨zH ?_,rfl⟩
 all_goals (rw [xaO];simp [kB];try omega)
theorem zEK (n:Int) (w:World):CC 267 #[.int .u8 n] w fun e a=>e=.returned (.bool (vU n))/\a=w:=by
 go_enter func267,ntmps267
 go_wp2
 all_goals go_ret
 all_goals refine ⟨zH ?_,rfl⟩
 all_goals (rw [xaO];simp [vU];try omega)
theorem zDE (n:Int) (w:World):CC 226 #[.int .u8 n] w fun e a=>e=.returned (.bool (nW n))/\a=w:=by
 go_enter func226,ntmps226
 go_wp2
 all_goals go_ret
 all_goals refine ⟨zH ?_,rfl⟩
 all_goals (rw [xaO];simp [nW,kB,vU];try omega)
theorem zJu (n:Int) (w:World):CC 268 #[.int .u8 n] w fun e a=>e=.returned (.bool (mK n))/\a=w:=by
 go_enter func268,ntmps268
 go_wp2
 all_goals go_ret
 all_goals refine ⟨zH ?_,rfl⟩
 all_goals (rw [xaO];simp [mK,zRf,nW,kB,vU];try omega)
section
variable {B:Nat} {a w b c:World}
theorem zG (h:Below B a w) (n:Nat):Below B a (w.drewN n):=⟨h.os,h.tape,h.output,h.size,h.block⟩
theorem zA (h:Below B a b) (d:B<=b.heap.size) (k:Below b.heap.size b c):Below B a c:=h.trans (k.mono d)
theorem Tryz.mixed:prog.follows .mixedOrders=true:=by kernel_rfl
def yD (w w':World):Prop:=∃q os,w'=Sort.grow (w.drewN q) os
theorem yD.refl (w:World):yD w w:=⟨0,#[],by rw [Sort.grow_empty];rfl⟩
theorem yD.draws (w:World) (n:Nat):yD w (w.drewN n):=⟨n,#[],by rw [Sort.grow_empty]⟩
theorem yD.trans (h:yD a b) (k:yD b c):yD a c:=by
 obtain ⟨q,d,rfl⟩:=h;obtain ⟨q',os',rfl⟩:=k;exact ⟨q+q',d++os',by show Sort.grow (Sort.grow ((a.drewN q).drewN q') d) os'=_;rw [Sort.grow_grow,World.drewN_drewN]⟩
theorem yD.alloc (h:yD a w) (o:Obj):yD a (w.alloc o):=h.trans ⟨0,#[o],by rw [Sort.alloc_eq_grow];rfl⟩
theorem yD.drewN (h:yD a w) (n:Nat):yD a (w.drewN n):=h.trans (yD.draws w n)
theorem yD.on {q:Nat} {os:Array Obj} (h:yD a w):yD a (Sort.grow (w.drewN q) os):=h.trans ⟨q,os,rfl⟩
theorem yD.below {d:World} (h:yD w d):Below w.heap.size w d:=by
 obtain ⟨q,e,rfl⟩:=h;constructor<;>grind [Sort.grow,World.drewN]
end
theorem zDg (s:ByteArray) (w:World) (hs:s.size<=maxLen):CC 224 #[.string s,.func (.func 267) #[] #[],.func (.func 268) #[] #[]] w fun e w'=>e=.returned (.bool (jB s.data.toList))/\w'=w:=by
 unfold maxLen at hs
 by_cases he:s.size=0
 ·have hb:=fA vU mK s he;have hlt:(s.size:Int)<1:=by omega
  have HB:Hid (wS vU mK s.L=false):=hb;go_enter func224,ntmps224;go_wp2_with fail;go_ret;exact ⟨zH HB.o.symm,rfl⟩
 have hpos:0<s.size:=by omega
 have hnl:¬ (s.size:Int)<1:=by omega
 by_cases hl:32<s.size
 ·have hb:=bO vU mK s hl;have HB:Hid (wS vU mK s.L=false):=hb;have hgt:(32:Int)<(s.size:Int):=by omega
  go_enter func224,ntmps224
  go_wp2_with fail
  go_ret;exact ⟨zH HB.o.symm,rfl⟩
 have hle:¬ (32:Int)<(s.size:Int):=by omega
 cases hc:vU (s[0].toNat:Int) with
 | false =>
  have HB:Hid (wS vU mK s.L=false):=gC vU mK s hpos hc;go_enter func224,ntmps224;go_wp2_with (go_at_call 267;refine (zEK _ _).mono ?_;rintro e w' ⟨rfl,rfl⟩);go_ret;exact ⟨zH HB.o.symm,rfl⟩
 | true =>
 have HT:Hid ((∀k,1<=k->(hk:k<s.size)->mK (s[k].toNat:Int)=true)->wS vU mK s.L=true):=bP vU mK s hpos (by omega) hc;have HA:Hid (∀k,1<=k->(hk:k<s.size)->mK (s[k].toNat:Int)=false->wS vU mK s.L=false):=fun k h1 hk=>zCJ vU mK s k h1 hk
 go_enter func224,ntmps224
 go_wp2_with (go_at_call 267;refine (zEK _ _).mono ?_;rintro e w' ⟨rfl,rfl⟩)
 go_loop [7] (fun i=>∃k:Nat,1<=k/\k<=s.size/\i=ii k/\(∀j,1<=j->j<k->(hj:j<s.size)->mK (s[j].toNat:Int)=true)) (fun i=>s.size-(intOf i).toNat)
 case atStart=>exact ⟨1,by omega,by omega,rfl,fun j h1 h2=>by omega⟩
 obtain ⟨k,hk1,hk,rfl,hall⟩:=hrel;have HL:Hid (∀j,1<=j->j<k->(hj:j<s.size)->mK (s[j].toNat:Int)=true):=hall
 by_cases hlt:k<s.size
 ·cases hd:mK (s[k].toNat:Int) with
  | false =>
   go_wp2_with (go_at_call 268;refine (zJu _ _).mono ?_;rintro e w' ⟨rfl,rfl⟩)
   go_ret;exact ⟨zH (HA.o k hk1 hlt hd).symm,rfl⟩
  | true =>
  go_wp2_with (go_at_call 268;refine (zJu _ _).mono ?_;rintro e w' ⟨rfl,rfl⟩)
  go_round
  case rel =>
   refine ⟨k+1,by omega,by omega,by go_num,fun j h1 h2 hj=>?_⟩
   by_cases hjk:j=k
   ·subst hjk;exact hd
   exact HL.o j h1 (by omega) hj
  case measure=>simp [intOf];omega
 go_wp2_with fail
 go_ret;exact ⟨zH (HT.o fun j h1 hj=>HL.o j h1 (by omega) hj).symm,rfl⟩
theorem zEV (s:ByteArray) (w:World) (hs:s.size<=maxLen):CC 233 #[.string s] w fun e a=>e=.returned (.bool (jB s.data.toList))/\a=w:=by
 go_enter func233,ntmps233
 go_wp2_with (go_at_call 224;refine (zDg _ _ hs).mono ?_;rintro e a ⟨rfl,rfl⟩)
 go_ret;exact ⟨rfl,rfl⟩
end Go.Proofs.YtkhljboeffhciaaGreat
namespace Go.Proofs
open Go.Shelf
def Tryz.lays106_ren:Go.Shelf.Ren:=⟨fun|106=>158|213=>210|265=>260|n=>n,fun|9=>9|3=>3|n=>n,fun|n=>n⟩
theorem Tryz.lays106:Go.Proofs.Lays.n106 prog Tryz.lays106_ren:={
 mixed:=by kernel_rfl
 f106:=func158.trans (congrArg some (by kernel_rfl))
 f213:=func210.trans (congrArg some (by kernel_rfl))
 f265:=func260.trans (congrArg some (by kernel_rfl))
 t3:=underlying3
 a3:=isAgg3
 z3:=sizeOf3
 v3:=zeroValue3
 t9:=underlying9
 a9:=isAgg9
 z9:=sizeOf9
 v9:=zeroValue9 }
open Go.RowKit in
theorem Tryz.strings_Compare (a b:ByteArray) (w:World):Calls prog 158 #[.string a,.string b] w fun e c=>e=.returned (.int .i64 (Lib.compareBytes a.data.toList b.data.toList))/\c=w:=Any.strings_Compare Tryz.lays106 a b w
def Tryz.lays219_ren:Go.Shelf.Ren:=⟨fun|219=>310|217=>312|225=>313|224=>314|267=>315|266=>316|314=>317|n=>n,fun|9=>9|3=>3|4=>4|5=>5|46=>294|146=>364|51=>326|n=>n,fun|1=>0|n=>n⟩
theorem Tryz.lays219:Go.Proofs.Lays.n219 prog Tryz.lays219_ren:={
 mixed:=by kernel_rfl
 f217:=func312.trans (congrArg some (by kernel_rfl))
 f219:=func310.trans (congrArg some (by kernel_rfl))
 f224:=func314.trans (congrArg some (by kernel_rfl))
 f225:=func313.trans (congrArg some (by kernel_rfl))
 f266:=func316.trans (congrArg some (by kernel_rfl))
 f267:=func315.trans (congrArg some (by kernel_rfl))
 f314:=func317.trans (congrArg some (by kernel_rfl))
 t3:=underlying3
 a3:=isAgg3
 z3:=sizeOf3
 v3:=zeroValue3
 t4:=underlying4
 a4:=isAgg4
 z4:=sizeOf4
 v4:=zeroValue4
 t5:=underlying5
 a5:=isAgg5
 z5:=sizeOf5
 v5:=zeroValue5
 t9:=underlying9
 a9:=isAgg9
 z9:=sizeOf9
 v9:=zeroValue9
 t46:=underlying294
 a46:=isAgg294
 z46:=sizeOf294
 v46:=zeroValue294
 t51:=underlying326
 a51:=isAgg326
 z51:=sizeOf326
 v51:=zeroValue326
 t146:=underlying364
 a146:=isAgg364
 z146:=sizeOf364
 v146:=zeroValue364
 g1:=by kernel_rfl }
open Go.RowKit Go.Lib in
theorem Tryz.stringslite_Index_one (s:ByteArray) (c:UInt8) (w:World):Calls prog 310 #[.string s,.string ⟨#[c]⟩] w fun e a=>e=.returned (.int .i64 (Lib.indexByte s.data.toList c))/\a=w:=Any.stringslite_Index_one Tryz.lays219 s c w
def Tryz.lays144_ren:Go.Shelf.Ren:=⟨fun|144=>281|143=>303|219=>310|217=>312|225=>313|224=>314|267=>315|266=>316|314=>317|n=>n,fun|9=>9|4=>4|3=>3|5=>5|46=>294|146=>364|51=>326|n=>n,fun|1=>0|n=>n⟩
theorem Tryz.lays144:Go.Proofs.Lays.n144 prog Tryz.lays144_ren:={
 mixed:=by kernel_rfl
 f143:=func303.trans (congrArg some (by kernel_rfl))
 f144:=func281.trans (congrArg some (by kernel_rfl))
 f217:=func312.trans (congrArg some (by kernel_rfl))
 f219:=func310.trans (congrArg some (by kernel_rfl))
 f224:=func314.trans (congrArg some (by kernel_rfl))
 f225:=func313.trans (congrArg some (by kernel_rfl))
 f266:=func316.trans (congrArg some (by kernel_rfl))
 f267:=func315.trans (congrArg some (by kernel_rfl))
 f314:=func317.trans (congrArg some (by kernel_rfl))
 t3:=underlying3
 a3:=isAgg3
 z3:=sizeOf3
 v3:=zeroValue3
 t4:=underlying4
 a4:=isAgg4
 z4:=sizeOf4
 v4:=zeroValue4
 t5:=underlying5
 a5:=isAgg5
 z5:=sizeOf5
 v5:=zeroValue5
 t9:=underlying9
 a9:=isAgg9
 z9:=sizeOf9
 v9:=zeroValue9
 t46:=underlying294
 a46:=isAgg294
 z46:=sizeOf294
 v46:=zeroValue294
 t51:=underlying326
 a51:=isAgg326
 z51:=sizeOf326
 v51:=zeroValue326
 t146:=underlying364
 a146:=isAgg364
 z146:=sizeOf364
 v146:=zeroValue364
 g1:=by kernel_rfl }
open Go.RowKit Go.Lib in
theorem Tryz.strings_Contains_one (s:ByteArray) (c:UInt8) (w:World):Calls prog 281 #[.string s,.string ⟨#[c]⟩] w fun e a=>e=.returned (.bool (decide (0<=Lib.indexByte s.data.toList c)))/\a=w:=Any.strings_Contains_one Tryz.lays144 s c w
def Tryz.laysNm216_ren:Go.Shelf.Ren:=⟨fun|16=>178|n=>n,fun|24=>80|9=>9|4=>4|n=>n,fun|n=>n⟩
theorem Tryz.laysNm216:Go.Proofs.Lays2.n16 prog Tryz.laysNm216_ren:={
 mixed:=by kernel_rfl
 f16:=func178.trans (congrArg some (by kernel_rfl))
 t4:=underlying4
 a4:=isAgg4
 z4:=sizeOf4
 v4:=zeroValue4
 t9:=underlying9
 a9:=isAgg9
 z9:=sizeOf9
 v9:=zeroValue9
 t24:=underlying80
 a24:=isAgg80
 z24:=sizeOf80
 v24:=zeroValue80
 i9:=by kernel_rfl }
open Go.RowKit Go.Lib in
theorem Tryz.slices_Clone_string (b a n c:Nat) (zs:List ByteArray) (w:World) (f:n<=zs.length) (g:n * 16<=140737488355328) (h:∀j,j<zs.length->w.cell? ⟨b,a+j,none⟩=some (.string (zs.getD j ByteArray.empty))):Calls prog 178 #[.slice (some ⟨b,a,none⟩) n c] w fun e d=>∃v',e=.returned v'/\d.ownsRow w.heap.size 9 1 v' n ((zs.take n).map (Value.string))/\v'≠.slice none 0 0/\Below w.heap.size w d:=Any.slices_Clone_string Tryz.laysNm216 b a n c zs w f g h
open Go.RowKit Go.Lib in
theorem Tryz.slices_Clone_string_nil (n c:Nat) (w:World):Calls prog 178 #[.slice none n c] w fun e a=>e=.returned (.slice none 0 0)/\a=w:=Any.slices_Clone_string_nil Tryz.laysNm216 n c w
open Go.RowKit Go.Lib in
theorem Tryz.slices_Clone_string_zero (a:Addr) (c:Nat) (w:World):Calls prog 178 #[.slice (some a) 0 c] w fun e b=>∃v',e=.returned v'/\b.ownsRow w.heap.size 9 1 v' 0 []/\v'≠.slice none 0 0/\Below w.heap.size w b:=Any.slices_Clone_string_zero Tryz.laysNm216 a c w
def Tryz.laysSlH8_f230_ren:Go.Shelf.Ren:=⟨fun|8=>230|6=>269|n=>n,fun|22=>80|23=>9|25=>266|4=>4|3=>3|0=>0|n=>n,fun|n=>n⟩
theorem Tryz.laysSlH8_f230:Go.Proofs.SlLaysH.n8 prog Tryz.laysSlH8_f230_ren:={
 mixed:=by kernel_rfl
 f6:=⟨Tryz.f269.name,by decide,func269.trans (congrArg some (by kernel_rfl))⟩
 f8:=⟨Tryz.f230.name,by decide,func230.trans (congrArg some (by kernel_rfl))⟩
 t0:=underlying0
 a0:=isAgg0
 z0:=sizeOf0
 v0:=zeroValue0
 t3:=underlying3
 a3:=isAgg3
 z3:=sizeOf3
 v3:=zeroValue3
 t4:=underlying4
 a4:=isAgg4
 z4:=sizeOf4
 v4:=zeroValue4
 t22:=underlying80
 a22:=isAgg80
 z22:=sizeOf80
 v22:=zeroValue80
 a23:=isAgg9
 z23:=sizeOf9
 t25:=underlying266
 a25:=isAgg266
 z25:=sizeOf266
 v25:=zeroValue266 }
open Go.RowKit Go.Lib in
theorem Tryz.slices_ContainsFunc {α:Type} [Inhabited α] (enc:α->Value) (p:α->Bool) (g:Nat) (lb:Array Value) (k:∀args w,(callFunc g args).run prog w=.ok (.enter g args) w) (b a n c:Nat) (zs:List α) (w:World) (d:PredAt prog g lb enc p w) (f:n<=zs.length) (h:n<=9223372036854775807) (i:∀j,j<zs.length->w.cell? ⟨b,a+j,none⟩=some (enc zs[j]!)):Calls prog 230 #[.slice (some ⟨b,a,none⟩) n c,.func (.func g) #[] lb] w fun e l=>e=.returned (.bool ((zs.take n).any p))/\∃q,l=w.drewN q:=AnyE.slices_ContainsFunc Tryz.laysSlH8_f230 enc p g lb k b a n c zs w d f h i
open Go.RowKit Go.Lib in
theorem Tryz.slices_ContainsFunc_empty {α:Type} [Inhabited α] (a:Option Addr) (c:Nat) (b:Value) (w:World):Calls prog 230 #[.slice a 0 c,b] w fun e d=>e=.returned (.bool false)/\d=w:=AnyE.slices_ContainsFunc_empty Tryz.laysSlH8_f230 a c b w
def Tryz.lays122_ren:Go.Shelf.Ren:=⟨fun|122=>235|215=>278|n=>n,fun|3=>3|4=>4|n=>n,fun|n=>n⟩
theorem Tryz.lays122:Go.Proofs.Lays.n122 prog Tryz.lays122_ren:={
 mixed:=by kernel_rfl
 f122:=func235.trans (congrArg some (by kernel_rfl))
 f215:=func278.trans (congrArg some (by kernel_rfl))
 t3:=underlying3
 a3:=isAgg3
 z3:=sizeOf3
 v3:=zeroValue3
 t4:=underlying4
 a4:=isAgg4
 z4:=sizeOf4
 v4:=zeroValue4 }
open Go.RowKit in
theorem Tryz.cmp_Compare_int (x y:Int) (w:World):Calls prog 235 #[.int .i64 x,.int .i64 y] w fun e a=>e=.returned (.int .i64 (Lib.compareInt x y))/\a=w:=Any.cmp_Compare_int Tryz.lays122 x y w
def Tryz.lays99_ren:Go.Shelf.Ren:=⟨fun|99=>241|206=>282|n=>n,fun|9=>9|4=>4|3=>3|n=>n,fun|n=>n⟩
theorem Tryz.lays99:Go.Proofs.Lays.n99 prog Tryz.lays99_ren:={
 mixed:=by kernel_rfl
 f99:=func241.trans (congrArg some (by kernel_rfl))
 f206:=func282.trans (congrArg some (by kernel_rfl))
 t3:=underlying3
 a3:=isAgg3
 z3:=sizeOf3
 v3:=zeroValue3
 t4:=underlying4
 a4:=isAgg4
 z4:=sizeOf4
 v4:=zeroValue4
 t9:=underlying9
 a9:=isAgg9
 z9:=sizeOf9
 v9:=zeroValue9 }
open Go.RowKit Go.Lib in
theorem Tryz.strings_HasPrefix (s p:ByteArray) (w:World):Calls prog 241 #[.string s,.string p] w fun e a=>e=.returned (.bool (Lib.hasPrefix s.data.toList p.data.toList))/\a=w:=Any.strings_HasPrefix Tryz.lays99 s p w
def Tryz.lays125_ren:Go.Shelf.Ren:=⟨fun|125=>209|128=>258|129=>259|n=>n,fun|46=>294|3=>3|51=>326|53=>24|4=>4|5=>5|9=>9|n=>n,fun|n=>n⟩
theorem Tryz.lays125:Go.Proofs.Lays.n125 prog Tryz.lays125_ren:={
 mixed:=by kernel_rfl
 f125:=func209.trans (congrArg some (by kernel_rfl))
 f128:=func258.trans (congrArg some (by kernel_rfl))
 f129:=func259.trans (congrArg some (by kernel_rfl))
 t3:=underlying3
 a3:=isAgg3
 z3:=sizeOf3
 v3:=zeroValue3
 t4:=underlying4
 a4:=isAgg4
 z4:=sizeOf4
 v4:=zeroValue4
 t5:=underlying5
 a5:=isAgg5
 z5:=sizeOf5
 v5:=zeroValue5
 t9:=underlying9
 a9:=isAgg9
 z9:=sizeOf9
 v9:=zeroValue9
 t46:=underlying294
 a46:=isAgg294
 z46:=sizeOf294
 v46:=zeroValue294
 t51:=underlying326
 a51:=isAgg326
 z51:=sizeOf326
 v51:=zeroValue326
 t53:=underlying24
 a53:=isAgg24
 z53:=sizeOf24
 v53:=zeroValue24 }
theorem Tryz.bits_Len (x:Int) (w:World) (a:0<=x) (c:x<=18446744073709551615):Calls prog 209 #[.int .u64 x] w fun e b=>e=.returned (.int .i64 (Lib.bitLen x.toNat))/\b=w:=Any.bits_Len Tryz.lays125 x w a c
def Tryz.insFnd_ren:Go.Shelf.Ren:=⟨fun|20=>236|n=>n,fun|24=>171|22=>43|3=>3|25=>223|4=>4|0=>0|n=>n,fun|n=>n⟩
theorem Tryz.insFnd:Go.Proofs.SlLaysF0.n20 prog Tryz.insFnd_ren:={
 mixed:=by kernel_rfl
 f20:=⟨Tryz.f236.name,by decide,func236.trans (congrArg some (by kernel_rfl))⟩
 t0:=underlying0
 a0:=isAgg0
 z0:=sizeOf0
 v0:=zeroValue0
 t3:=underlying3
 a3:=isAgg3
 z3:=sizeOf3
 v3:=zeroValue3
 t4:=underlying4
 a4:=isAgg4
 z4:=sizeOf4
 v4:=zeroValue4
 t22:=underlying43
 a22:=isAgg43
 z22:=sizeOf43
 v22:=zeroValue43
 t25:=underlying223
 a25:=isAgg223
 z25:=sizeOf223
 v25:=zeroValue223 }
def Tryz.hasTrm_ren:Go.Shelf.Ren:=⟨fun|8=>182|6=>232|n=>n,fun|22=>38|23=>239|25=>275|4=>4|3=>3|0=>0|n=>n,fun|n=>n⟩
theorem Tryz.hasTrm:Go.Proofs.SlLaysH0.n8 prog Tryz.hasTrm_ren:={
 mixed:=by kernel_rfl
 f6:=⟨Tryz.f232.name,by decide,func232.trans (congrArg some (by kernel_rfl))⟩
 f8:=⟨Tryz.f182.name,by decide,func182.trans (congrArg some (by kernel_rfl))⟩
 t0:=underlying0
 a0:=isAgg0
 z0:=sizeOf0
 v0:=zeroValue0
 t3:=underlying3
 a3:=isAgg3
 z3:=sizeOf3
 v3:=zeroValue3
 t4:=underlying4
 a4:=isAgg4
 z4:=sizeOf4
 v4:=zeroValue4
 t22:=underlying38
 a22:=isAgg38
 z22:=sizeOf38
 v22:=zeroValue38
 t25:=underlying275
 a25:=isAgg275
 z25:=sizeOf275
 v25:=zeroValue275 }
def Tryz.sortTrm_ren:Go.Shelf.Ren:=⟨fun|6=>187|15=>209|14=>234|28=>258|29=>259|20=>270|21=>271|22=>272|23=>273|24=>274|25=>275|26=>276|27=>277|46=>298|47=>293|48=>294|49=>299|50=>300|57=>308|n=>n,fun|22=>38|24=>239|25=>278|3=>3|39=>294|0=>0|53=>326|55=>24|4=>4|46=>320|45=>319|50=>304|5=>5|9=>9|66=>345|70=>348|76=>357|77=>358|n=>n,fun|n=>n⟩
theorem Tryz.sortTrm:Go.Proofs.SlLaysF0.n6 prog Tryz.sortTrm_ren:={
 mixed:=by kernel_rfl
 f6:=⟨Tryz.f187.name,by decide,func187.trans (congrArg some (by kernel_rfl))⟩
 f14:=⟨Tryz.f234.name,by decide,func234.trans (congrArg some (by kernel_rfl))⟩
 f15:=func209.trans (congrArg some (by kernel_rfl))
 f20:=⟨Tryz.f270.name,by decide,func270.trans (congrArg some (by kernel_rfl))⟩
 f21:=⟨Tryz.f271.name,by decide,func271.trans (congrArg some (by kernel_rfl))⟩
 f22:=⟨Tryz.f272.name,by decide,func272.trans (congrArg some (by kernel_rfl))⟩
 f23:=⟨Tryz.f273.name,by decide,func273.trans (congrArg some (by kernel_rfl))⟩
 f24:=⟨Tryz.f274.name,by decide,func274.trans (congrArg some (by kernel_rfl))⟩
 f25:=⟨Tryz.f275.name,by decide,func275.trans (congrArg some (by kernel_rfl))⟩
 f26:=⟨Tryz.f276.name,by decide,func276.trans (congrArg some (by kernel_rfl))⟩
 f27:=⟨Tryz.f277.name,by decide,func277.trans (congrArg some (by kernel_rfl))⟩
 f28:=func258.trans (congrArg some (by kernel_rfl))
 f29:=func259.trans (congrArg some (by kernel_rfl))
 f46:=⟨Tryz.f298.name,by decide,func298.trans (congrArg some (by kernel_rfl))⟩
 f47:=func293.trans (congrArg some (by kernel_rfl))
 f48:=func294.trans (congrArg some (by kernel_rfl))
 f49:=⟨Tryz.f299.name,by decide,func299.trans (congrArg some (by kernel_rfl))⟩
 f50:=⟨Tryz.f300.name,by decide,func300.trans (congrArg some (by kernel_rfl))⟩
 f57:=⟨Tryz.f308.name,by decide,func308.trans (congrArg some (by kernel_rfl))⟩
 t0:=underlying0
 a0:=isAgg0
 z0:=sizeOf0
 v0:=zeroValue0
 t3:=underlying3
 a3:=isAgg3
 z3:=sizeOf3
 v3:=zeroValue3
 t4:=underlying4
 a4:=isAgg4
 z4:=sizeOf4
 v4:=zeroValue4
 t5:=underlying5
 a5:=isAgg5
 z5:=sizeOf5
 v5:=zeroValue5
 t9:=underlying9
 a9:=isAgg9
 z9:=sizeOf9
 v9:=zeroValue9
 t22:=underlying38
 a22:=isAgg38
 z22:=sizeOf38
 v22:=zeroValue38
 t25:=underlying278
 a25:=isAgg278
 z25:=sizeOf278
 v25:=zeroValue278
 t39:=underlying294
 a39:=isAgg294
 z39:=sizeOf294
 v39:=zeroValue294
 t45:=underlying319
 a45:=isAgg319
 z45:=sizeOf319
 v45:=zeroValue319
 t46:=underlying320
 a46:=isAgg320
 z46:=sizeOf320
 v46:=zeroValue320
 t50:=underlying304
 a50:=isAgg304
 z50:=sizeOf304
 v50:=zeroValue304
 t53:=underlying326
 a53:=isAgg326
 z53:=sizeOf326
 v53:=zeroValue326
 t55:=underlying24
 a55:=isAgg24
 z55:=sizeOf24
 v55:=zeroValue24
 t66:=underlying345
 a66:=isAgg345
 z66:=sizeOf345
 v66:=zeroValue345
 t70:=underlying348
 a70:=isAgg348
 z70:=sizeOf348
 v70:=zeroValue348
 t76:=underlying357
 a76:=isAgg357
 z76:=sizeOf357
 v76:=zeroValue357
 t77:=underlying358
 a77:=isAgg358
 z77:=sizeOf358
 v77:=zeroValue358 }
def Tryz.cloneKey_ren:Go.Shelf.Ren:=⟨fun|41=>190|n=>n,fun|22=>46|23=>36|4=>4|n=>n,fun|n=>n⟩
theorem Tryz.cloneKey:Go.Proofs.SlLaysE0.n41 prog Tryz.cloneKey_ren:={
 mixed:=by kernel_rfl
 f41:=⟨Tryz.f190.name,by decide,func190.trans (congrArg some (by kernel_rfl))⟩
 t4:=underlying4
 a4:=isAgg4
 z4:=sizeOf4
 v4:=zeroValue4
 t22:=underlying46
 a22:=isAgg46
 z22:=sizeOf46
 v22:=zeroValue46 }
def Tryz.sortKey_ren:Go.Shelf.Ren:=⟨fun|6=>155|15=>209|14=>208|28=>258|29=>259|20=>250|21=>251|22=>252|23=>253|24=>254|25=>255|26=>256|27=>257|46=>292|47=>293|48=>294|49=>295|50=>296|57=>307|n=>n,fun|22=>46|24=>36|25=>193|3=>3|39=>294|0=>0|53=>326|55=>24|4=>4|46=>320|45=>319|50=>304|5=>5|9=>9|66=>345|70=>348|76=>357|77=>358|n=>n,fun|n=>n⟩
theorem Tryz.sortKey:Go.Proofs.SlLaysF0.n6 prog Tryz.sortKey_ren:={
 mixed:=by kernel_rfl
 f6:=⟨Tryz.f155.name,by decide,func155.trans (congrArg some (by kernel_rfl))⟩
 f14:=⟨Tryz.f208.name,by decide,func208.trans (congrArg some (by kernel_rfl))⟩
 f15:=func209.trans (congrArg some (by kernel_rfl))
 f20:=⟨Tryz.f250.name,by decide,func250.trans (congrArg some (by kernel_rfl))⟩
 f21:=⟨Tryz.f251.name,by decide,func251.trans (congrArg some (by kernel_rfl))⟩
 f22:=⟨Tryz.f252.name,by decide,func252.trans (congrArg some (by kernel_rfl))⟩
 f23:=⟨Tryz.f253.name,by decide,func253.trans (congrArg some (by kernel_rfl))⟩
 f24:=⟨Tryz.f254.name,by decide,func254.trans (congrArg some (by kernel_rfl))⟩
 f25:=⟨Tryz.f255.name,by decide,func255.trans (congrArg some (by kernel_rfl))⟩
 f26:=⟨Tryz.f256.name,by decide,func256.trans (congrArg some (by kernel_rfl))⟩
 f27:=⟨Tryz.f257.name,by decide,func257.trans (congrArg some (by kernel_rfl))⟩
 f28:=func258.trans (congrArg some (by kernel_rfl))
 f29:=func259.trans (congrArg some (by kernel_rfl))
 f46:=⟨Tryz.f292.name,by decide,func292.trans (congrArg some (by kernel_rfl))⟩
 f47:=func293.trans (congrArg some (by kernel_rfl))
 f48:=func294.trans (congrArg some (by kernel_rfl))
 f49:=⟨Tryz.f295.name,by decide,func295.trans (congrArg some (by kernel_rfl))⟩
 f50:=⟨Tryz.f296.name,by decide,func296.trans (congrArg some (by kernel_rfl))⟩
 f57:=⟨Tryz.f307.name,by decide,func307.trans (congrArg some (by kernel_rfl))⟩
 t0:=underlying0
 a0:=isAgg0
 z0:=sizeOf0
 v0:=zeroValue0
 t3:=underlying3
 a3:=isAgg3
 z3:=sizeOf3
 v3:=zeroValue3
 t4:=underlying4
 a4:=isAgg4
 z4:=sizeOf4
 v4:=zeroValue4
 t5:=underlying5
 a5:=isAgg5
 z5:=sizeOf5
 v5:=zeroValue5
 t9:=underlying9
 a9:=isAgg9
 z9:=sizeOf9
 v9:=zeroValue9
 t22:=underlying46
 a22:=isAgg46
 z22:=sizeOf46
 v22:=zeroValue46
 t25:=underlying193
 a25:=isAgg193
 z25:=sizeOf193
 v25:=zeroValue193
 t39:=underlying294
 a39:=isAgg294
 z39:=sizeOf294
 v39:=zeroValue294
 t45:=underlying319
 a45:=isAgg319
 z45:=sizeOf319
 v45:=zeroValue319
 t46:=underlying320
 a46:=isAgg320
 z46:=sizeOf320
 v46:=zeroValue320
 t50:=underlying304
 a50:=isAgg304
 z50:=sizeOf304
 v50:=zeroValue304
 t53:=underlying326
 a53:=isAgg326
 z53:=sizeOf326
 v53:=zeroValue326
 t55:=underlying24
 a55:=isAgg24
 z55:=sizeOf24
 v55:=zeroValue24
 t66:=underlying345
 a66:=isAgg345
 z66:=sizeOf345
 v66:=zeroValue345
 t70:=underlying348
 a70:=isAgg348
 z70:=sizeOf348
 v70:=zeroValue348
 t76:=underlying357
 a76:=isAgg357
 z76:=sizeOf357
 v76:=zeroValue357
 t77:=underlying358
 a77:=isAgg358
 z77:=sizeOf358
 v77:=zeroValue358 }
def Tryz.eqTrm_ren:Go.Shelf.Ren:=⟨fun|8=>291|n=>n,fun|22=>38|24=>239|4=>4|3=>3|0=>0|n=>n,fun|n=>n⟩
theorem Tryz.eqTrm:Go.Proofs.SlLaysQ.n8 prog Tryz.eqTrm_ren:={
 mixed:=by kernel_rfl
 f8:=⟨Tryz.f291.name,by decide,func291.trans (congrArg some (by kernel_rfl))⟩
 t0:=underlying0
 a0:=isAgg0
 z0:=sizeOf0
 v0:=zeroValue0
 t3:=underlying3
 a3:=isAgg3
 z3:=sizeOf3
 v3:=zeroValue3
 t4:=underlying4
 a4:=isAgg4
 z4:=sizeOf4
 v4:=zeroValue4
 t22:=underlying38
 a22:=isAgg38
 z22:=sizeOf38
 v22:=zeroValue38 }
def Tryz.conKys_ren:Go.Shelf.Ren:=⟨fun|7=>262|6=>297|n=>n,fun|22=>46|24=>36|4=>4|0=>0|3=>3|n=>n,fun|n=>n⟩
theorem Tryz.conKys:Go.Proofs.SlLaysQ.n7 prog Tryz.conKys_ren:={
 mixed:=by kernel_rfl
 f6:=⟨Tryz.f297.name,by decide,func297.trans (congrArg some (by kernel_rfl))⟩
 f7:=⟨Tryz.f262.name,by decide,func262.trans (congrArg some (by kernel_rfl))⟩
 t0:=underlying0
 a0:=isAgg0
 z0:=sizeOf0
 v0:=zeroValue0
 t3:=underlying3
 a3:=isAgg3
 z3:=sizeOf3
 v3:=zeroValue3
 t4:=underlying4
 a4:=isAgg4
 z4:=sizeOf4
 v4:=zeroValue4
 t22:=underlying46
 a22:=isAgg46
 z22:=sizeOf46
 v22:=zeroValue46 }
end Go.Proofs
namespace Go.Proofs.YtkhljboeffhciaaGreat
abbrev Fld:=ByteArray × List ByteArray
structure Fx where
 name:ByteArray
 p:Option Addr
 cap:Nat
 txt:List ByteArray
 deriving Inhabited
def Fx.sl (x:Fx):Value:=.slice x.p x.txt.length x.cap
def Fx.fld (x:Fx):Fld:=(x.name,x.txt)
def sQ (x:Fx):List Value:=[.string x.name,x.sl]
def Fx.val (x:Fx):Value:=.agg (sQ x).toArray
def pA (w:World) (p:Option Addr) (ts:List ByteArray):Prop:=ts=[]∨∃b off,p=some ⟨b,off,none⟩/\∀i,(h:i<ts.length)->w.cell? ⟨b,off+i,none⟩=some (.string ts[i])
def Fx.at (w:World) (x:Fx):Prop:=pA w x.p x.txt
def zHT (w:World) (b off:Nat) (d:List Fx):Prop:=∀i,(h:i<d.length)->w.cell? ⟨b,off+i * 2,none⟩=some (.string d[i].name)/\w.cell? ⟨b,off+i * 2+1,none⟩=some d[i].sl
def wH (w:World) (v:Value) (d:List Fx):Prop:=∃p cap,v=.slice p d.length cap/\(d=[]∨∃b off,p=some ⟨b,off,none⟩/\zHT w b off d)/\∀x∈d,x.at w
def zKd (ts:List ByteArray):Prop:=ts.length<=maxLen/\∀t∈ts,t.size<=maxLen
def zNq (f:Fld):Prop:=f.1.size<=maxLen/\zKd f.2
def yW (d:List Fx):Prop:=d.length<=maxLen/\∀x∈d,zNq x.fld
theorem zI {w:World} {a:Addr} {v:Value} (h:w.cell? a=some v):a.block<w.heap.size:=by grind [World.cell?]
theorem pA.kept {w c:World} {p:Option Addr} {d:List ByteArray} (h:pA w p d) (e:Below w.heap.size w c):pA c p d:=by
 rcases h with h|⟨b,a,f,h⟩
 ·exact xac h
 exact xaf ⟨b,a,f,fun i hi=>(e.cell (p:=(aa b (a+i))) (zI (h i hi))).trans (h i hi)⟩
theorem zHT.kept {w e:World} {b a:Nat} {d:List Fx} (h:zHT w b a d) (c:Below w.heap.size w e):zHT e b a d:=fun i hi=>⟨(c.cell (p:=(aa b (a+i * 2))) (zI (h i hi).1)).trans (h i hi).1,(c.cell (p:=(aa b (a+i * 2+1))) (zI (h i hi).2)).trans (h i hi).2⟩
theorem wH.at_all {w:World} {v:Value} {d:List Fx} (h:wH w v d):∀x∈d,x.at w:=by
 obtain ⟨_,_,_,_,h⟩:=h;exact h
theorem wH.kept {w c:World} {v:Value} {d:List Fx} (h:wH w v d) (a:Below w.heap.size w c):wH c v d:=by
 obtain ⟨p,e,rfl,h,j⟩:=h;refine ⟨p,e,rfl,?_,fun x g=>(j x g).kept a⟩
 rcases h with h|⟨b,f,i,h⟩
 ·grind
 exact xaf ⟨b,f,i,h.kept a⟩
def zB4 (t:ByteArray):Bool:=decide (128<t.size)
def jS (f:Fld):Bool:=jB f.1.data.toList && !f.2.isEmpty&&decide (f.2.length<=8) && !f.2.any zB4
theorem zFK (x:Fx) (w:World) (hs:x.name.size<=maxLen):CC 228 #[x.val] w fun e a=>e=.returned (.bool (!jB x.name.data.toList))/\yD w a:=by
 obtain ⟨c,p,b,d⟩:=x;simp only [Fx.val,sQ,Fx.sl] at hs ⊢;go_enter func228,ntmps228;go_wp2_with (go_at_call 233;refine (zEV _ _ hs).mono ?_;rintro e a ⟨rfl,rfl⟩);go_ret;exact ⟨rfl,(yD.refl _).alloc _⟩
theorem zON (x:Fx) (w:World):CC 229 #[x.val] w fun e b=>e=.returned (.bool x.txt.isEmpty)/\yD w b:=by
 obtain ⟨f,p,d,a⟩:=x;simp only [Fx.val,sQ,Fx.sl]
 have c:Hid (decide ((a.length:Int)=0)=a.isEmpty):=by
  show _=_
  cases a<;>simp
  omega
 go_enter func229,ntmps229
 go_wp2_with fail
 go_ret;exact ⟨zH c.o,(yD.refl _).alloc _⟩
theorem zGA (t:ByteArray) (w:World):CC 231 #[.string t] w fun e a=>e=.returned (.bool (zB4 t))/\a=w:=by
 have b:Hid (decide ((128:Int)<t.size)=zB4 t):=by
  show _=_
  unfold zB4;rw [xaO];simp;omega
 go_enter func231,ntmps231
 go_wp2_with fail
 go_ret;exact ⟨zH b.o,rfl⟩
section
open Go.RowKit Go.Shelf
theorem own_on {w f:World} {b:Nat} {e:TypeId} {d:Nat} {v:Value} {n:Nat} {c:List Value} (h:w.ownsRow b e d v n c) (a:Below w.heap.size w f):f.ownsRow b e d v n c:=h.kept (row:=none) ⟨a.os,a.tape,a.output,a.size,fun k g _=>a.block k g⟩ (Classical.em _)
end
theorem addr_add (b a i:Nat):(⟨b,a,none⟩:Addr).add i=⟨b,a+i,none⟩:=by grind [Addr.add]
theorem xS (w:World) (R i:Nat) (v:Value):w.grownBy (w.setCell ⟨R,i,none⟩ v) (some R):=⟨rfl,rfl,rfl,by simp [World.setCell],fun k _ a=>Below.heap_setCell w _ _ k (fun e=>a (by rw [e]))⟩
theorem nO {a b c:World} {R:Nat} (h:a.grownBy b (some R)) (k:b.grownBy c (some R)):a.grownBy c (some R):=⟨k.os.trans h.os,k.tape.trans h.tape,k.output.trans h.output,zaU h.size k.size,fun i hi d=>(k.block i (zaT hi h.size) d).trans (h.block i hi d)⟩
section
variable {w:World} {v:Value}
theorem Tryz.infoStr:(prog.info? 9).map (fun i=>(i.zero,i.size,i.bytes))=some (some (.string ⟨#[]⟩),1,16):=by kernel_rfl
def tR (n0:Nat) (w:World) (v:Value) (ts:List ByteArray):Prop:=w.ownsRow n0 9 1 v ts.length (ts.map Value.string)
theorem own_weak {b c:Nat} {e:TypeId} {d:Nat} {n:Nat} {a:List Value} (h:w.ownsRow b e d v n a) (o:c<=b):w.ownsRow c e d v n a:=by
 refine ⟨h.1,?_⟩
 rcases h.2 with f|⟨g,j,k,i,m,l⟩
 ·exact .inl f
 exact .inr ⟨g,j,k,i,by omega,l⟩
theorem tR.on {n0:Nat} {b:World} {a:List ByteArray} (h:tR n0 w v a) (c:Below w.heap.size w b):tR n0 b v a:=own_on h c
end
theorem zCk:∀args w,(callFunc 231 args).run prog w=.ok (.enter 231 args) w:=xaR func231 (by kernel_rfl) rfl
theorem zGM (p:Option Addr) (c:Nat) (a:List ByteArray) (w:World) (h:pA w p a) (hs:a.length<=maxLen):CC 230 #[.slice p a.length c,.func (.func 231) #[] #[]] w fun e d=>e=.returned (.bool (a.any zB4))/\∃q,d=w.drewN q:=by
 unfold maxLen at hs
 rcases h with rfl|⟨b,f,rfl,g⟩
 ·refine (Tryz.slices_ContainsFunc_empty (α:=ByteArray) p c _ w).mono ?_;rintro e d ⟨rfl,rfl⟩;exact ⟨rfl,0,rfl⟩
 refine (Tryz.slices_ContainsFunc (fun t:ByteArray=>Value.string t) zB4 231 #[] zCk b f a.length c a w (fun W x i=>(zGA x W).mono ?_) (zaL _) (by omega) ?_).mono ?_
 ·rintro e d ⟨rfl,rfl⟩;exact ⟨rfl,0,rfl⟩
 ·grind
 grind
theorem zNP (x:Fx) (w:World) (n:x.at w) (y:zNq x.fld):CC 176 #[x.val] w fun e A=>e=.returned (.bool (jS x.fld))/\yD w A:=by
 obtain ⟨k,l,_⟩:=y;have g:=hid (zFK x);have h:=hid (zON x);obtain ⟨nm,p,cap,ts⟩:=x;simp only [Fx.val,sQ,Fx.sl,Fx.fld,Fx.at] at k l n g h ⊢;have d:yD w (w.alloc (.cells #[tq nm,sc p ts.length cap] 82)):=(yD.refl _).alloc _;have v:=hid (n.kept d.below);have j:=hid k;have s:=hid l;obtain ⟨r,hr⟩:=eE (jS (nm,ts));rw [hr];have i:=hid hr
 have u:∀b,Below (w.alloc (.cells #[tq nm,sc p ts.length cap] 82)).z (w.alloc (.cells #[tq nm,sc p ts.length cap] 82)) b->b.cell? (aa w.z 0)=some (tq nm)/\b.cell? (aa w.z 1)=some (sc p ts.length cap):=fun b m=>by
  refine ⟨(m.cell (p:=(aa w.z 0)) (by simp)).trans (by simp [go_sem]),(m.cell (p:=(aa w.z 1)) (by simp)).trans (by simp [go_sem])⟩
 have f:=hid u
 cases h1:jB nm.L with
 | false =>
  have c:Hid (r=false):=by show r=false;rw [<-i.o];simp [jS,h1]
  go_enter func176,ntmps176
  go_wp2_with (first|(go_at_call 228;refine (g.o _ j.o).mono ?_;rintro e b ⟨rfl,a⟩;simp only [h1]))
  go_ret;exact ⟨zH c.o.symm,d.trans a⟩
 | true =>
 cases h2:ts.isEmpty with
 | true =>
  have c:Hid (r=false):=by show r=false;rw [<-i.o];simp [jS,h2]
  go_enter func176,ntmps176
  go_wp2_with (first|(go_at_call 228;refine (g.o _ j.o).mono ?_;rintro e b ⟨rfl,a⟩;obtain ⟨a0,a1⟩:=f.out _ a.below;simp only [h1])|(go_at_call 229;refine (h.o _).mono ?_;rintro e w2 ⟨rfl,hb3⟩;simp only [h2]))
  go_ret;exact ⟨zH c.o.symm,(d.trans a).trans hb3⟩
 | false =>
 by_cases h8:ts.length<=8
 ·have t:¬ (8:Int)<(ts.length:Int):=by omega
  have c:Hid (r = !ts.any zB4):=by show r=_;rw [<-i.o];unfold jS;rw [h1,h2,xas h8];rfl
  go_enter func176,ntmps176
  go_wp2_with (first|(go_at_call 228;refine (g.o _ j.o).mono ?_;rintro e b ⟨rfl,a⟩;obtain ⟨a0,a1⟩:=f.out _ a.below;simp only [h1])|(go_at_call 229;refine (h.o _).mono ?_;rintro e w2 ⟨rfl,hb3⟩;obtain ⟨b0,b1⟩:=f.out _ (a.trans hb3).below;simp only [h2])|(go_at_call 230;refine (zGM _ _ _ _ (v.o.kept (a.trans hb3).below) s.o).mono ?_;rintro e w3 ⟨rfl,q,rfl⟩))
  go_ret;exact ⟨zH c.o.symm,((d.trans a).trans hb3).drewN _⟩
 have t:(8:Int)<(ts.length:Int):=by omega
 have c:Hid (r=false):=by show r=_;rw [<-i.o];unfold jS;rw [xar h8];simp
 go_enter func176,ntmps176
 go_wp2_with (first|(go_at_call 228;refine (g.o _ j.o).mono ?_;rintro e b ⟨rfl,a⟩;obtain ⟨a0,a1⟩:=f.out _ a.below;simp only [h1])|(go_at_call 229;refine (h.o _).mono ?_;rintro e w2 ⟨rfl,hb3⟩;obtain ⟨b0,b1⟩:=f.out _ (a.trans hb3).below;simp only [h2]))
 go_ret;exact ⟨zH c.o.symm,(d.trans a).trans hb3⟩
section
variable {i:Nat} {fs:List Fld}
def ltN (a b:ByteArray):Bool:=Op.bytesLess a.toList b.toList
def qY (fs:List Fld) (i:Nat):Bool:=jS (fs.getD i default)&&(decide (i=0)||ltN (fs.getD (i-1) default).1 (fs.getD i default).1)
def yZ (fs:List Fld):Bool:=decide (fs.length<=16)&&(List.range fs.length).all (qY fs)
theorem zJe {d:List Fx} (h:i<d.length):(d.map Fx.fld).getD i default=d[i].fld:=by grind
theorem zNs (h:16<fs.length):yZ fs=false:=by grind [yZ]
theorem zHt (h:i<fs.length) (hs:qY fs i=false):yZ fs=false:=by grind [yZ]
theorem zQZ (h:fs.length<=16) (hs:∀i,i<fs.length->qY fs i=true):yZ fs=true:=by grind [yZ]
theorem zQ8 (w:World) (x:Fx) (a:World) (b:Below (w.alloc (.cells #[.string x.name,.slice x.p x.txt.length x.cap] 82)).heap.size (w.alloc (.cells #[.string x.name,.slice x.p x.txt.length x.cap] 82)) a):a.cell? ⟨w.heap.size,0,none⟩=some (.string x.name)/\a.cell? ⟨w.heap.size,1,none⟩=some (.slice x.p x.txt.length x.cap):=⟨(b.cell (p:=(aa w.z 0)) (by simp)).trans (by simp [go_sem]),(b.cell (p:=(aa w.z 1)) (by simp)).trans (by simp [go_sem])⟩
theorem zKA (v:Value) (d:List Fx) (w:World) (hv:wH w v d) (U:yW d):CC 123 #[v] w fun e X=>e=.returned (.bool (yZ (d.map Fx.fld)))/\yD w X:=by
 obtain ⟨p,aj,rfl,hd,Y⟩:=hv;have HT:=hid Y;have HF:=hid U.2;have hl:=U.1;unfold maxLen at hl;have HD:=hid hd;clear Y U hd;obtain ⟨r,hr⟩:=eE (yZ (d.map Fx.fld));rw [hr];have F:=hid hr;clear hr
 by_cases h16:16<d.length
 ·have ae:(16:Int)<d.length:=by omega
  have f:Hid (r=false):=F.o.symm.trans (zNs (by grind));go_enter func123,ntmps123;go_wp2_with fail;go_ret;exact ⟨zH f.o.symm,yD.refl _⟩
 have ae:¬ (16:Int)<d.length:=by omega
 go_enter func123,ntmps123
 go_wp2_with fail
 go_loopg [10] d.length (fun g vi wr=>∃i:Nat,vi=ii i/\i<=d.length/\d.length-i<=g/\yD w wr/\Hid (∀j,j<i->qY (d.map Fx.fld) j=true))
 case atStart=>exact ⟨0,rfl,by omega,by omega,yD.refl _,fun j h=>by omega⟩
 obtain ⟨i,rfl,hi,hg,G,HJ⟩:=hrel
 by_cases hlt:i<d.length
 ·have ag:(i:Int)<(d.length:Int):=by omega
  have ai:(0:Int)<=i:=by omega
  obtain ⟨b,B,rfl,Z⟩:∃b B,p=some (aa b B)/\zHT w b B d:=by
   rcases HD.o with h|h
   ·grind
   exact h
  have T:=Z.kept G.below;obtain ⟨R,J⟩:=T i hlt;have S:(d[i]).at wr:=(HT.o _ (zaN hlt)).kept G.below;have M:=HF.o _ (zaN hlt);have N:=zJe hlt;obtain ⟨x,hx⟩:=eE (d[i]);rw [hx] at R J S M N;have ac:=hid T;have ab:=hid S;have ad:=hid M;have L:=hid N;clear T Z S M hx N;unfold Fx.sl at J;have m:Hid (∀W,x.at W->CC 176 #[.agg #[tq x.name,sc x.p x.txt.length x.cap]] W fun e X=>e=.returned (.bool (jS x.fld))/\∃q os',X=Sort.grow (W.drewN q) os'):=fun W h=>zNP x W h ad.o
  have E:=Tryz.mixed
  by_cases h0:i=0
  ·have ak:¬ (0:Int)<(i:Int):=by omega
   have ah:=hid h0;clear h0;go_wp2_with fail;obtain ⟨c,t⟩:=eE (wr.alloc (.cells #[tq x.name,sc x.p x.txt.length x.cap] 82))
   have l:∀n a,(Sort.grow (c.drewN n) a).cell? (aa wr.z 0)=some (tq x.name)/\(Sort.grow (c.drewN n) a).cell? (aa wr.z 1)=some (sc x.p x.txt.length x.cap)/\x.at (Sort.grow (c.drewN n) a):=fun n a=>by
    subst t;have D:=(yD.refl (wr.alloc (.cells #[tq x.name,sc x.p x.txt.length x.cap] 82))).on (q:=n) (os:=a);obtain ⟨Q,P⟩:=zQ8 wr x _ D.below;have I:=(((yD.refl wr).alloc (.cells #[tq x.name,sc x.p x.txt.length x.cap] 82)).trans D).below;exact ⟨Q,P,ab.o.kept I⟩
   have q0:∀n a,(Sort.grow (c.drewN n) a).cell? (aa wr.z 0)=some (tq x.name):=fun n a=>(l n a).1
   have q1:∀n a,(Sort.grow (c.drewN n) a).cell? (aa wr.z 1)=some (sc x.p x.txt.length x.cap):=fun n a=>(l n a).2.1
   have C:Hid (∀n a,x.at (Sort.grow (c.drewN n) a)):=fun n a=>(l n a).2.2
   have A:yD w c:=by subst t;exact G.alloc _
   rw [t];clear l t R J
   cases hfx:jS x.fld with
   | false =>
    rw [hfx] at m;have f:Hid (r=false):=F.o.symm.trans (zHt (i:=i) (by grind) (by unfold qY;rw [L.o,hfx];rfl));refine xbu E (by kernel_rfl) ?_
    repeat (go_big_quiet_step (first|(go_at_call 176;refine xa6 (m.out _ (C.out _ _)))))
    refine wpQuiet_nil ?_;intro _ u;obtain ⟨⟨K,H⟩,s⟩:=u;subst s;go_wp2_with fail;go_ret;exact ⟨zH f.o.symm,A.on⟩
   | true =>
   rw [hfx] at m;have cb:decide (0<i)=false:=xar (by omega);have f:Hid (qY (d.map Fx.fld) i=true):=by show _=_;unfold qY;rw [L.o,hfx,xas ah.o];rfl
   refine xbu E (by kernel_rfl) ?_
   repeat (go_big_quiet_step (first|(go_at_call 176;refine xa6 (m.out _ (C.out _ _)))))
   refine wpQuiet_nil ?_;intro _ u;obtain ⟨⟨K,H⟩,s⟩:=u;subst s;go_wp2_with fail;go_roundg (d.length-(i+1))
   case measure=>omega
   refine ⟨i+1,by go_num,by omega,by omega,A.on,fun j hj=>?_⟩;obtain rfl:j=i:=by omega
   exact f.o
  obtain ⟨k,rfl⟩:∃k,i=k+1:=⟨i-1,by omega⟩;obtain ⟨e0,e1⟩:=ac.o k (by omega);have O:=zJe (d:=d) (i:=k) (by omega);obtain ⟨y,hy⟩:=eE (d[k]);rw [hy] at e0 O;have af:=hid O;clear e1 hy O;have k1:(0:Int)<(k:Int)+1:=by omega
  have k2:(0:Int)<=(k:Int):=by omega
  have k3:(k:Int)<(d.length:Int):=by omega
  go_wp2_with fail
  obtain ⟨c,t⟩:=eE (wr.alloc (.cells #[tq x.name,sc x.p x.txt.length x.cap] 82))
  have l:∀n a,(Sort.grow (c.drewN n) a).cell? (aa wr.z 0)=some (tq x.name)/\(Sort.grow (c.drewN n) a).cell? (aa wr.z 1)=some (sc x.p x.txt.length x.cap)/\(Sort.grow (c.drewN n) a).cell? (aa b (B+k * 2))=some (tq y.name)/\x.at (Sort.grow (c.drewN n) a):=fun n a=>by
   subst t;have D:=(yD.refl (wr.alloc (.cells #[tq x.name,sc x.p x.txt.length x.cap] 82))).on (q:=n) (os:=a);obtain ⟨Q,P⟩:=zQ8 wr x _ D.below;have I:=(((yD.refl wr).alloc (.cells #[tq x.name,sc x.p x.txt.length x.cap] 82)).trans D).below;exact ⟨Q,P,(I.cell (p:=(aa b (B+k * 2))) (zI e0)).trans e0,ab.o.kept I⟩
  have q0:∀n a,(Sort.grow (c.drewN n) a).cell? (aa wr.z 0)=some (tq x.name):=fun n a=>(l n a).1
  have q1:∀n a,(Sort.grow (c.drewN n) a).cell? (aa wr.z 1)=some (sc x.p x.txt.length x.cap):=fun n a=>(l n a).2.1
  have q2:∀n a,(Sort.grow (c.drewN n) a).cell? (aa b (B+k * 2))=some (tq y.name):=fun n a=>(l n a).2.2.1
  have C:Hid (∀n a,x.at (Sort.grow (c.drewN n) a)):=fun n a=>(l n a).2.2.2
  have A:yD w c:=by subst t;exact G.alloc _
  rw [t];clear l t R J e0
  cases hfx:jS x.fld with
  | false =>
   rw [hfx] at m;have f:Hid (r=false):=F.o.symm.trans (zHt (i:=k+1) (by grind) (by unfold qY;rw [L.o,hfx];rfl));refine xbu E (by kernel_rfl) ?_
   repeat (go_big_quiet_step (first|(go_at_call 176;refine xa6 (m.out _ (C.out _ _)))))
   refine wpQuiet_nil ?_;intro _ u;obtain ⟨⟨K,H⟩,s⟩:=u;subst s;go_wp2_with fail;go_ret;exact ⟨zH f.o.symm,A.on⟩
  | true =>
  rw [hfx] at m
  have f:Hid (qY (d.map Fx.fld) (k+1)=ltN y.name x.name):=by
   show _=_
   unfold qY;rw [L.o,hfx,Nat.add_sub_cancel,af.o,xar (by omega)];rfl
  cases hlt2:Op.bytesLess y.name.toList x.name.toList with
  | false =>
   have V:Hid (r=false):=F.o.symm.trans (zHt (i:=k+1) (by grind) (f.o.trans hlt2));refine xbu E (by kernel_rfl) ?_
   repeat (go_big_quiet_step (first|(go_at_call 176;refine xa6 (m.out _ (C.out _ _)))))
   refine wpQuiet_nil ?_;intro _ u;obtain ⟨⟨K,H⟩,s⟩:=u;subst s;go_wp2_with fail;go_ret;exact ⟨zH V.o.symm,A.on⟩
  | true =>
  have V:Hid (qY (d.map Fx.fld) (k+1)=true):=f.o.trans hlt2;refine xbu E (by kernel_rfl) ?_
  repeat (go_big_quiet_step (first|(go_at_call 176;refine xa6 (m.out _ (C.out _ _)))))
  refine wpQuiet_nil ?_;intro _ u;obtain ⟨⟨K,H⟩,s⟩:=u;subst s;go_wp2_with fail;go_roundg (d.length-(k+1+1))
  case measure=>omega
  refine ⟨k+1+1,by go_num,by omega,by omega,A.on,fun j hj=>?_⟩
  by_cases e:j=k+1
  ·subst e;exact V.o
  exact HJ.o j (by omega)
 have ag:¬ (i:Int)<(d.length:Int):=by omega
 have f:Hid (r=true):=F.o.symm.trans (zQZ (by grind) (fun j hj=>HJ.o j (by grind)));go_wp2_with fail;go_ret;exact ⟨zH f.o.symm,G⟩
end
section
variable {n0:Nat} {w w':World} {ts:List ByteArray} {v sv:Value} {d:List Fx}
theorem Tryz.infoFld:(prog.info? 82).map (fun i=>(i.zero,i.size,i.bytes))=some (some (.agg #[.string ⟨#[]⟩,.slice none 0 0]),2,40):=by kernel_rfl
def yT (d:List Fx):List Value:=d.flatMap sQ
theorem zDj (d e:List Fx):yT (d++e)=yT d++yT e:=List.flatMap_append
theorem bI (d:List Fx):(yT d).length=d.length * 2:=by
 induction d with
 | nil=>rfl
 | cons x d ih=>simp [yT,sQ] at ih ⊢;omega
theorem mS (d:List Fx) (i:Nat) (h:i<d.length):(yT d)[i * 2]? = some (.string d[i].name)/\(yT d)[i * 2+1]? = some d[i].sl:=by
 induction d generalizing i with
 | nil=>simp at h
 | cons x d ih =>
 have e:yT (x::d)=tq x.name::x.sl::yT d:=rfl
 grind
def zAV (n0:Nat) (w:World) (v:Value) (d:List Fx):Prop:=w.ownsRow n0 82 2 v d.length (yT d)/\∀x∈d,tR n0 w x.sl x.txt
theorem tR.txtAt {p:Option Addr} {k:Nat} (h:tR n0 w (.slice p ts.length k) ts):pA w p ts:=by
 rcases h.2 with ⟨_,f⟩|⟨g,c,a,e,_,j,_,_,l,b⟩
 ·exact xac (List.length_eq_zero_iff.1 f)
 right;injection e with hp
 refine ⟨g,0,hp,fun i hi=>?_⟩;rw [xaJ,cell_of_row w g i a _ _ j]
 have:(ts.map Value.string)[i]? = a.toList[i]?:=by
  rw [<-b,xa8,xae (by omega)]
 grind
theorem zAV.is (h:zAV n0 w v d):wH w v d:=by
 obtain ⟨b,f⟩:=h
 rcases b.2 with ⟨rfl,k⟩|⟨g,c,l,rfl,_,p,_,_,q,m⟩
 ·obtain rfl:=List.length_eq_zero_iff.1 k;exact ⟨none,0,rfl,xac rfl,fun x a=>by simp at a⟩
 refine ⟨_,c,rfl,xaf ⟨g,0,rfl,fun i hi=>?_⟩,fun x a=>tR.txtAt (f x a)⟩;obtain ⟨o,n⟩:=mS d i hi
 have e:∀j,j<d.length * 2->(yT d)[j]? = l[j]?:=fun j hj=>by
  rw [<-m,xa8,xae hj,xbw]
 grind [cell_of_row]
theorem zAV.on (h:zAV n0 w v d) (a:Below w.heap.size w w'):zAV n0 w' v d:=⟨own_on h.1 a,fun x b=>(h.2 x b).on a⟩
theorem tR.rowX {n m:Nat} {a:List Value} {f:Nat} (h:tR n0 w sv ts) (b:w.ownsRow f 82 n v m a) (i:w.grownBy w' v.ownBlock):tR n0 w' sv ts:=by
 refine World.ownsRow.kept h i ?_
 rcases h.2 with ⟨rfl,_⟩|⟨g,c,q,rfl,_,o,_⟩
 ·exact xac rfl
 right;intro e
 rcases b.2 with ⟨rfl,_⟩|⟨k,l,p,rfl,_,j,_⟩<;>grind [Value.ownBlock]
theorem pH (h:tR n0 w sv ts):∃p a,sv=.slice p ts.length a:=by rcases h.2 with ⟨b,e⟩|⟨g,a,c,b,_⟩<;>grind
theorem zQz (w:World) (x:Fx):∀j u,(yT [x])[j]? = some u->(w.alloc (.cells #[.string x.name,.slice x.p x.txt.length x.cap] 82)).cell? ((⟨w.heap.size,0,none⟩:Addr).add j)=some u:=by
 intro j u hj;have e:yT [x]=[tq x.name,sc x.p x.txt.length x.cap]:=rfl;rw [e] at hj
 match j,hj with
 | 0,hj=>simp_all [Addr.add]
 | 1,hj=>simp_all [addr_add]
theorem zCP (d:List Fx):∀u∈yT d,u.oneCell'=true:=by
 intro u b;obtain ⟨x,_,a⟩:=List.mem_flatMap.1 b;simp [sQ] at a
 rcases a with rfl|rfl<;>rfl
theorem zAV.put {b:Value} {x:Fx} (h:zAV n0 w v d) (e:tR n0 w x.sl x.txt) (f:w'.ownsRow n0 82 2 b (d.length+1) (yT d++yT [x])) (c:w.grownBy w' v.ownBlock):zAV n0 w' b (d++[x]):=by
 refine ⟨?_,fun y a=>?_⟩
 ·grind [zDj]
 rw [List.mem_append,xaH] at a
 rcases a with a|rfl
 ·exact (h.2 y a).rowX h.1 c
 exact e.rowX h.1 c
theorem zQP {a:List Fld} (h:d.map Fx.fld=a) (c:d.length<=maxLen) (b:∀f∈a,zNq f):yW d:=⟨c,fun x e=>b _ (by grind)⟩
end
theorem zAw (a b:ByteArray):(a.toList==b.toList)=decide (a=b):=by
 rw [xaO];simp only [beq_iff_eq,xa5];constructor
 ·intro h;rw [xbt,xbt] at h;obtain ⟨⟨l⟩⟩:=a
  simp_all
 grind
theorem mW (p:Option Addr) (g:Nat) (c:List ByteArray) (w:World) (h:pA w p c) (hs:c.length * 16<=140737488355328):CC 178 #[.slice p c.length g] w fun e d=>∃v,e=.returned v/\tR w.heap.size d v c/\Below w.heap.size w d:=by
 rcases h with rfl|⟨b,k,rfl,l⟩
 ·cases p with
  | none =>
   refine (Tryz.slices_Clone_string_nil 0 g w).mono ?_;rintro e d ⟨rfl,rfl⟩;exact ⟨_,rfl,xbx _ _ _ _,zaR _ _⟩
  | some a =>
  refine (Tryz.slices_Clone_string_zero a g w).mono ?_;rintro e d ⟨v,rfl,f,_,i⟩;exact ⟨_,rfl,f,i⟩
 refine (Tryz.slices_Clone_string b k c.length g c w (zaL _) hs (fun j hj=>?_)).mono ?_
 ·grind
 rintro e d ⟨v,rfl,f,_,i⟩;rw [List.take_length] at f;exact ⟨_,rfl,f,i⟩
def sD (fs:List Fld) (n:ByteArray):List ByteArray:=((fs.find? fun f=>decide (f.1=n)).map (·.2)).getD []
theorem zIU (a:List Fld) (n:ByteArray) (i:Nat) (hi:i<a.length) (b:∀j (h:j<i),(a[j]'(by omega)).1≠n) (c:a[i].1=n):sD a n=a[i].2:=by
 unfold sD
 have:a.find? (fun f=>decide (f.1=n))=some a[i]:=by
  rw [List.find?_eq_some_iff_getElem];refine ⟨by grind,i,hi,rfl,fun j hj=>?_⟩
  simpa using b j hj
 grind
theorem zJ4 (a:List Fld) (n:ByteArray) (b:∀j (h:j<a.length),a[j].1≠n):sD a n=[]:=by grind [sD,List.find?_eq_none,List.mem_iff_getElem]
def zRc (w:World) (ts:List ByteArray) (e:Ending) (w':World):Prop:=(∃v,e=.returned v/\tR w.heap.size w' v ts)/\Below w.heap.size w w'
theorem zMT (v:Value) (nm:ByteArray) (d:List Fx) (w:World) (hv:wH w v d) (hf:yW d) (h16:∀x∈d,x.txt.length * 16<=140737488355328):CC 194 #[v,.string nm] w fun e w'=>zRc w (sD (d.map Fx.fld) nm) e w':=by
 obtain ⟨p,cap,rfl,hd,ht⟩:=hv;have HT:=hid ht;have HD:=hid hd;have H16:=hid h16;have hl:=hf.1;unfold maxLen at hl;clear ht hd hf h16;go_enter func194,ntmps194;go_wp2_with fail
 go_loopg [9] d.length (fun g vi wr=>∃i:Nat,vi=ii i/\i<=d.length/\d.length-i<=g/\yD w wr/\Hid (∀j (h:j<d.length),j<i->d[j].name≠nm))
 case atStart=>exact ⟨0,rfl,by omega,by omega,yD.refl _,fun j _ h=>by omega⟩
 obtain ⟨i,rfl,hi,hg,hb,HJ⟩:=hrel
 by_cases hlt:i<d.length
 ·have hltz:(i:Int)<(d.length:Int):=by omega
  have hiz:(0:Int)<=i:=by omega
  obtain ⟨b,off,rfl,hxs⟩:∃b off,p=some (aa b off)/\zHT w b off d:=by
   rcases HD.o with h|h
   ·subst h;simp at hlt
   exact h
  obtain ⟨c0,c1⟩:=hxs.kept hb.below i hlt;have hxi:(d[i]).at w:=HT.o _ (zaN hlt);have hs16:=H16.o _ (zaN hlt)
  have hyes:d[i].name=nm->sD (d.map Fx.fld) nm=d[i].txt:=fun e=>by
   have:=zIU (d.map Fx.fld) nm i (by rw [zaM];exact hlt) (fun j hj=>by simp only [xa4];exact HJ.o j (by omega) hj) (by simp only [xa4];exact e)
   simpa [Fx.fld] using this
  have hnx:d[i].name≠nm->∀j (h:j<d.length),j<i+1->d[j].name≠nm:=fun e j h hj=>by
   by_cases ej:j=i
   ·subst ej;exact e
   exact HJ.o j h (by omega)
  obtain ⟨x,hx⟩:=eE (d[i]);rw [hx] at c0 c1 hxi hs16 hyes hnx;have HXI:=hid hxi;have HYES:=hid hyes;have HNX:=hid hnx;clear hxs hxi hx hyes hnx;unfold Fx.sl at c1;have hgW:yD w (wr.alloc (.cells #[tq x.name,sc x.p x.txt.length x.cap] 82)):=hb.alloc _;have HGW:=hid hgW;have HCL:=hid (mW x.p x.cap x.txt _ (HXI.o.kept hgW.below) hs16);clear hgW
  cases hq:(x.name.toList==nm.toList) with
  | true =>
   have hq2:x.name=nm:=by rw [zAw,xa5] at hq;exact hq
   have HQ:=hid (HYES.o hq2);clear hq2;go_wp2_with (first|(go_at_call 178;refine HCL.o.mono ?_;rintro e w2 ⟨u,rfl,ho,hb2⟩));go_ret;refine ⟨⟨_,rfl,?_⟩,HGW.o.below.trans (hb2.mono HGW.o.below.size)⟩;rw [HQ.o];exact own_weak ho HGW.o.below.size
  | false =>
  have hq2:x.name≠nm:=by rw [zAw,xa0] at hq;exact hq
  have HQ:=hid (HNX.o hq2);clear hq2;go_wp2_with fail;go_roundg (d.length-(i+1))
  case measure=>omega
  exact ⟨i+1,by go_num,by omega,by omega,HGW.o,HQ.o⟩
 have hltz:¬ (i:Int)<(d.length:Int):=by omega
 have H0:Hid (sD (d.map Fx.fld) nm=[]):=zJ4 _ _ (fun j hj=>by
  rw [zaM] at hj;simp only [xa4];exact HJ.o j hj (by omega))
 go_wp2_with fail
 go_ret;refine ⟨⟨_,rfl,?_⟩,hb.below⟩;rw [H0.o];exact xbx _ _ _ _
section
open Go.RowKit Go.Sort Go.Lib
section
variable {w w':World} {v:Value} {o:List Fx} {n0 size n:Nat} {e:TypeId} {xs:List Value}
def zGQ (o:List Fx):Prop:=o.Pairwise fun x y=>x.sl.ownBlock=none∨x.sl.ownBlock≠y.sl.ownBlock
def zW (N:Nat) (w:World) (v:Value) (o:List Fx):Prop:=zAV N w v o/\zGQ o
theorem zW.on {N:Nat} (h:zW N w v o) (a:Below w.heap.size w w'):zW N w' v o:=⟨h.1.on a,h.2⟩
theorem zCY {x:Fx} (h:zGQ o) (a:∀y∈o,y.sl.ownBlock=none∨y.sl.ownBlock≠x.sl.ownBlock):zGQ (o++[x]):=by grind [zGQ]
theorem zV {k:Nat} (h:w.ownsRow n0 e size v n xs) (a:v.ownBlock=some k):∃cs,w.heap[k]? = some (.cells cs e (0,0)):=by rcases h.2 with ⟨rfl,_⟩|⟨g,c,d,rfl,_,b,_⟩<;>grind [Value.ownBlock]
theorem mA {c:Nat} {a:TypeId} {f:Nat} {u:Value} {m:Nat} {b:List Value} (h:w.ownsRow n0 e size v n xs) (g:w.ownsRow c a f u m b) (i:e≠a) (d:w.grownBy w' u.ownBlock):w'.ownsRow n0 e size v n xs:=by
 refine h.kept d ?_
 rcases hv:v.ownBlock with _|k<;>grind [zV]
end
end
section
open Go.RowKit Go.Sort Go.Lib
section
variable {w:World}
theorem zNC {b a:Nat} {d:List Fx} (h:zHT w b a d):∀j u,(yT d)[j]? = some u->w.cell? ⟨b,a+j,none⟩=some u:=by
 intro j u hj;have c:=(gL hj).1;rw [bI] at c;obtain ⟨e,f⟩:=h (j / 2) (by omega);obtain ⟨g0,g1⟩:=mS d (j / 2) (by omega)
 grind
theorem zDS (v:Value) (d:List Fx) (w:World) (t:wH w v d) (hs:d.length * 40<=140737488355328):CC 177 #[v] w fun e m=>∃u,e=.returned u/\m.ownsRow w.heap.size 82 2 u d.length (yT d)/\Below w.heap.size w m:=by
 obtain ⟨D,hi,F,y,A⟩:=xaL Tryz.infoFld;obtain ⟨p,cap,rfl,hd,_⟩:=t;have L:∀(w:World) (a:Option Addr) (n c g i:Nat),(binOp .eql 37 (sc a n c) (sc none g i)).run prog w=.ok (.bool a.isNone) w:=fun w a n c g i=>xbv w _ _ a n c g i underlying37
 have q:=hid hd
 cases p with
 | none =>
  have x:d=[]:=by
   rcases q.o with h|⟨b,f,h,_⟩
   ·exact h
   cases h
  subst x;go_enter func177,ntmps177;go_wp2_with fail;go_ret;exact ⟨_,rfl,xbx _ _ _ _,zaR _ _⟩
 | some a =>
 have H:∀j u,(yT d)[j]? = some u->(w.alloc (.cells #[] 82)).cell? (a.add j)=some u:=by
  rcases q.o with h|⟨b,f,h,I⟩
  ·subst h;intro j u hj;simp [yT] at hj
  intro j u hj;obtain rfl:a=(aa b f):=by simpa using h
  rw [addr_add];have:=zNC I j u hj;rw [World.cell?_alloc_lt _ _ (aa b (f+j)) (zI this)];exact this
 have G:=hid H;go_enter func177,ntmps177;go_wp2_with (at_builtin;refine xbj _ rfl _ _ 37 rfl w.z 82 D (.agg #[tq ⟨#[]⟩,sc none 0 0]) 2 40 underlying37 hi F y A rfl (by decide) _ _ _ rfl (xbO w #[] 0 (zaL _) (xaE _) (by simp)) a d.length cap (yT d) rfl ?c0 ?c1 ?c2 ?c3 ?c4 ?c5 ?_)
 case c0=>exact bI d
 case c1=>exact G.o
 case c2=>exact zCP d
 case c3=>unfold maxLen;omega
 case c4=>omega
 case c5=>simp
 intro s l E J K;have B:Bw w l:=((zaR _ w).alloc (zaL _) _).grown J (by simp) (by intro k r;simp [Value.ownBlock] at r;omega);have C:Hid (l.ownsRow w.z 82 2 s d.length (yT d)):=hid (by simpa using E);go_wp2_with fail;go_ret;exact ⟨_,rfl,C.o,B⟩
theorem zA6 (l:List Fx) (t:Nat) (h:t<l.length * 2):(l.flatMap sQ)[t]? = some (sQ (l[t / 2]!))[t % 2]!:=by
 induction l generalizing t with
 | nil=>simp at h
 | cons x l ih =>
 rw [List.flatMap_cons]
 by_cases h2:t<2
 ·rcases (show t=0∨t=1 by omega) with rfl|rfl<;>simp [sQ]
 obtain ⟨u,rfl⟩:∃u,t=u+2:=⟨t-2,by omega⟩;have a:(sQ x).length=2:=rfl
 grind
theorem cJ {g:Nat} {a:Array Value} {e:TypeId} (d:Array Fx) (h:w.heap[g]? = some (.cells a e (0,0))) (f:a.toList.take (d.size * 2)=yT d.toList):HoldsK sQ 2 w g 0 d:=by
 intro j hj;rw [size_flatK] at hj;have b:=zA6 d.toList j (by omega);have c:(a.toList.take (d.size * 2))[j]? = some (sQ (d.toList[j / 2]!))[j % 2]!:=by rw [f];exact b
 rw [xa9 hj] at c;rw [get_flatK _ _ _ _ hj]
 grind [World.cell?,World.frozen?]
theorem jU {B:Nat} {b:World} (h:Below B b w) (e:B<=w.heap.size) (a c n:Nat) (d:Array Fx) (os:Array Obj) (f:B<=a):Below B b (sortWorldK sQ 2 w a c n d os):=by
 refine h.trans ⟨rfl,rfl,rfl,?_,?_⟩
 ·simp [sortWorldK,putRowK]
 grind [sortWorldK,Sort.grow,putRowK,putRow,mapBlock,Sort.ahead]
end
end
section
open Go.Sort
section
variable {a b x y q c n e:Nat}
set_option linter.unusedSectionVars false
variable {α:Type} [Inhabited α] {κ:Type} [DecidableEq κ]
def Way (K:α->κ) (d dk:Array α):Prop:=PermIn 0 d.size d dk/\pZ K d dk
theorem Way.refl (K:α->κ) (d:Array α):Way K d d:=⟨permIn_refl _ _ _,pZ.refl K d⟩
theorem Way.size {K:α->κ} {d dk:Array α} (h:Way K d dk):dk.size=d.size:=h.1.1
theorem Way.step {K:α->κ} {d dk f:Array α} (h:Way K d dk) (p:PermIn a b dk f) (g:b<=d.size) (s:pZ K dk f):Way K d f:=by
 have e:dk.size=d.size:=h.1.1;exact ⟨permIn_trans _ _ _ _ _ h.1 (permIn_mono _ _ _ _ _ _ (xaE _) g (Nat.le_of_eq e.symm) p),h.2.trans s⟩
def zBc (lt:α->α->Bool) (c q:Nat) (d:Array α):Prop:=∀t,t<q->SortedIn lt (t * c) (t * c+c) d
def vW (lt:α->α->Bool) (c a n:Nat) (d:Array α):Prop:=∀t,SortedIn lt (a+t * c) (min (a+t * c+c) n) d
theorem nB {g:α->α->Bool} {d f:Array α} (p:PermIn a b d f) (h:SortedIn g x y d) (o:y<=a∨b<=x):SortedIn g x y f:=fun i j l m k=>by
 rw [p.2.1 i (by omega),p.2.1 j (by omega)];exact h i j l m k
theorem zBb {f:α->α->Bool} {d:Array α} (h:SortedIn f a b d) (l:a<=x) (m:y<=b):SortedIn f x y d:=fun i j o g k=>h i j (by omega) g (by omega)
theorem zDH (f:α->α->Bool) (c:Nat) (d:Array α):zBc f c 0 d:=fun _ g=>absurd g (Nat.not_lt_zero _)
theorem zId {t:Nat} (c:Nat) (h:t<q):t * c+c<=q * c:=by
 have:=xa1 c (show t+1<=q from h)
 grind
theorem zBc.step {f:α->α->Bool} {d g:Array α} (h:zBc f c q d) (p:PermIn (q * c) (q * c+c) d g) (s:SortedIn f (q * c) (q * c+c) g):zBc f c (q+1) g:=fun t i=>by
 by_cases e:t<q
 ·exact nB p (h t e) (xac (zId c e))
 grind
theorem zBc.last {f:α->α->Bool} {d g:Array α} (h:zBc f c q d) (o:n<q * c+c) (p:PermIn (q * c) n d g) (s:SortedIn f (q * c) n g):vW f c 0 n g:=fun t=>by
 rw [xaJ]
 rcases Nat.lt_trichotomy t q with e|e|e
 ·exact zBb (nB p (h t e) (xac (zId c e))) (zaL _) (by omega)
 ·grind
 have:=zId c e;intro i j k l m;omega
theorem vW.first {f:α->α->Bool} {d:Array α} (h:vW f c a n d) (g:a+c<=n):SortedIn f a (a+c) d:=by
 have:=h 0
 grind
theorem vW.second {f:α->α->Bool} {d:Array α} (h:vW f c a n d) (i:e<=a+c+c) (g:e<=n):SortedIn f (a+c) e d:=by
 have:=h 1
 grind [zBb]
theorem vW.short {f:α->α->Bool} {d:Array α} (h:vW f c a n d) (g:n<=a+c):SortedIn f a n d:=by
 have:=h 0
 grind
theorem vW.step {f:α->α->Bool} {d g:Array α} (h:vW f c a n d) (p:PermIn a (a+2 * c) d g):vW f c (a+2 * c) n g:=fun t=>by
 have:=h (t+2)
 grind [nB]
theorem zLB {f:α->α->Bool} {K:α->κ} (B:SWO f) (C:∀x y,f x y=true->K x≠K y) {a s m e b g:Nat} {d j:Array α} (h:Rot s m e d j) (l:a<=s) (z:s<=m) (o:m<=e) (A:e<=b) (t:b<=d.size) (v:s+(e-m)=g)
  (hL:SortedIn f a m d) (hR:SortedIn f m b d) (hlow:a<s->e<b->f d[e]! d[s-1]! = false) (hhigh:s<m->m<e->f d[e-1]! d[s]! = true):SortedIn f a s j/\SortedIn f s g j/\(¬ (a<s/\s<g)->Mrg f K a g j j) /\
   (∀i,Mrg f K a g j i->SortedIn f g e i/\SortedIn f e b i/\(¬ (g<e/\e<b)->Mrg f K g b i i)/\∀d3,Mrg f K g b i d3->Mrg f K a b d d3):=by
 subst v;obtain ⟨_,_,u,r,p,w,_⟩:=h.merge (K:=K) B C l z o A t hL hR hlow hhigh;refine ⟨u,r,fun E=>Mrg.none ?_,fun i k=>?_⟩
 ·grind
 have F:=nB k.1 p (xaf (zaL _));have D:=nB k.1 w (xaf (by omega))
 grind [Mrg.none,Mrg.of_rot]
end
end
section
open Go.RowKit Go.Sort Go.Lib
theorem zJ7 {N:Nat} {w w4:World} {v a:Value} {o:List Fx} {x:Fx} {M:Nat} (h:zW N w v o) (b:tR M w x.sl x.txt) (f:∀y∈o,∀k,y.sl.ownBlock=some k->k<M) (c:N<=M)
  (hown:w4.ownsRow N 82 2 a (o.length+1) (yT o++yT [x])) (hg:w.grownBy w4 v.ownBlock):zW N w4 a (o++[x]):=by
 refine ⟨h.1.put (own_weak b c) hown hg,zCY h.2 fun y d=>?_⟩
 rcases hb:y.sl.ownBlock with _|k
 ·grind
 right;intro e;have g:=f y d k hb;have i:=(zaW b k e.symm).1;omega
end
theorem zN6 {s t:ByteArray} (h:¬ s=t):(s.toList==t.toList)=false:=by
 rw [xbt,xbt,xb4];intro e;apply h;obtain ⟨⟨s⟩⟩:=s
 simp_all
theorem zLD (p q:Option Addr) (C F:Nat) (a us:List ByteArray) (w:World) (A:pA w p a) (D:pA w q us) (B:a.length<=maxLen):CC 68 #[.slice p a.length C,.slice q us.length F] w fun e N=>e=.returned (.bool (decide (a=us)))/\∃n,N=w.drewN n:=by
 unfold maxLen at B;obtain ⟨r,l⟩:=eE (decide (a=us));rw [l];have d:=hid l;have M:=hid A;have J:=hid D
 by_cases hl:a.length=us.length
 ·have L:((a.length:Int) != (us.length:Int))=false:=by simp [hl]
  have E:=hid hl;go_enter func68,ntmps68;go_wp2_with fail
  go_loopg [5] a.length (fun g I wr=>∃i m:Nat,I=ii i/\i<=a.length/\a.length-i<=g/\wr=w.drewN m/\Hid (∀j,j<i->a[j]? = us[j]?))
  case atStart=>exact ⟨0,0,rfl,by omega,by omega,rfl,fun j h=>by omega⟩
  obtain ⟨i,m,rfl,hi,Y,rfl,f⟩:=hrel
  by_cases hlt:i<a.length
  ·have c:i<us.length:=by rw [<-E.o];exact hlt
   have Q:(0:Int)<=↑i:=by omega
   have V:(↑i:Int) < ↑a.length:=by omega
   have U:(↑i:Int) < ↑us.length:=by omega
   rcases M.o with k|⟨W,R,rfl,K⟩
   ·grind
   rcases J.o with k|⟨S,X,rfl,O⟩
   ·rw [k] at c;simp at c
   have G:=K i hlt;have H:=O i c;have y:a[i]? = some a[i]:=xai hlt;have x:us[i]? = some us[i]:=xai c;obtain ⟨s,z⟩:=eE (a[i]);obtain ⟨t,ht⟩:=eE (us[i]);rw [z] at G y;rw [ht] at H x;have u:=hid y;have v:=hid x
   by_cases hst:s=t
   ·subst hst;go_wp2_with fail
    go_quiet (fail)
    go_wp2_with fail
    go_roundg (a.length-(i+1))
    case measure=>omega
    refine ⟨i+1,_,by go_num,by omega,by omega,rfl,fun j hj=>?_⟩
    by_cases e:j=i
    ·subst e;rw [u.out,v.out]
    exact f.o j (by omega)
   have T:=zN6 hst
   have b:Hid (r=false):=d.o.symm.trans (xar fun e=>hst (by
    have:=u.out;rw [e,v.out] at this
    grind))
   go_wp2_with fail
   go_quiet (fail)
   go_wp2_with fail
   go_ret;exact ⟨zH b.o.symm,_,by rw [World.drewN_drewN]⟩
  have P:¬ (i:Int)<(a.length:Int):=by omega
  have b:Hid (r=true):=d.o.symm.trans (xas (xaU fun j=>by
   by_cases hj:j<a.length
   ·exact f.o j (by omega)
   grind))
  go_wp2_with fail
  go_ret;exact ⟨zH b.o.symm,_,rfl⟩
 have L:((a.length:Int) != (us.length:Int))=true:=by simp;omega
 have b:Hid (r=false):=d.o.symm.trans (xar fun e=>hl (by rw [e]));go_enter func68,ntmps68;go_wp2_with fail;go_ret;exact ⟨zH b.o.symm,0,rfl⟩
theorem zLy (v u:Value) (d e:List Fx) (w:World) (hv:wH w v d) (hu:wH w u e) (L:yW d) (O:yW e):CC 23 #[v,u] w fun r N=>r=.returned (.bool (decide (d.map Fx.fld=e.map Fx.fld)))/\∃n,N=w.drewN n:=by
 obtain ⟨p,af,rfl,a,S⟩:=hv;obtain ⟨q,cap',rfl,he,ht'⟩:=hu;have ab:=L.1;have ac:=O.1;unfold maxLen at ab ac;have HF:=hid L.2;have HG:=hid O.2;have HD:=hid a;have HE:=hid he;have HT:=hid S;have HT':=hid ht';obtain ⟨r,hr⟩:=eE (decide (d.map Fx.fld=e.map Fx.fld));rw [hr];have C:=hid hr;clear hr a he S ht' L O
 by_cases hl:d.length=e.length
 ·have hb:((d.length:Int) != (e.length:Int))=false:=by simp [hl]
  have HL:=hid hl;clear hl;go_enter func23,ntmps23;go_wp2_with fail
  go_loopg [5] d.length (fun g vi wr=>∃i m:Nat,vi=ii i/\i<=d.length/\d.length-i<=g/\wr=w.drewN m/\Hid (∀j,j<i->(d.map Fx.fld)[j]? = (e.map Fx.fld)[j]?))
  case atStart=>exact ⟨0,0,rfl,by omega,by omega,rfl,fun j h=>by omega⟩
  obtain ⟨i,m,rfl,hi,ag,rfl,R⟩:=hrel
  by_cases hlt:i<d.length
  ·have c:i<e.length:=by rw [<-HL.o];exact hlt
   have i1:(0:Int)<=↑i:=by omega
   have i2:(↑i:Int) < ↑d.length:=by omega
   have i3:(↑i:Int) < ↑e.length:=by omega
   rcases HD.o with E|⟨b1,X,rfl,k1⟩
   ·rw [E] at hlt;simp at hlt
   rcases HE.o with E|⟨Y,o2,rfl,k2⟩
   ·rw [E] at c;simp at c
   obtain ⟨B,D⟩:=k1 i hlt;obtain ⟨y0,y1⟩:=k2 i c;have Q:(d.map Fx.fld)[i]? = some (d[i]).fld:=by rw [xby,xai hlt];rfl
   have J:(e.map Fx.fld)[i]? = some (e[i]).fld:=by rw [xby,xai c];rfl
   have M:=HF.o _ (zaN hlt);have T:=HG.o _ (zaN c);have F:=HT.o _ (zaN hlt);have P:=HT'.out _ (zaN c);clear k1 k2;obtain ⟨x,Z⟩:=eE (d[i]);obtain ⟨y,hy⟩:=eE (e[i]);rw [Z] at B D Q M F;rw [hy] at y0 y1 J T P;unfold Fx.sl at D y1;have G:=hid Q;have H:=hid J;obtain ⟨W,hW⟩:=eE (w.drewN m)
   have l:Hid (∀n,CC 68 #[sc x.p x.txt.length x.cap,sc y.p y.txt.length y.cap] (W.drewN n) fun r N=>r=.returned (.bool (decide (x.txt=y.txt)))/\∃k,N=(W.drewN n).drewN k):=fun n=>by
    subst hW;exact zLD _ _ _ _ _ _ _ F P M.2.1
   replace B:W.cell? (aa b1 (X+i * 2))=some (tq x.name):=by subst hW;exact B
   replace D:W.cell? (aa b1 (X+i * 2+1))=some (sc x.p x.txt.length x.cap):=by subst hW;exact D
   replace y0:W.cell? (aa Y (o2+i * 2))=some (tq y.name):=by subst hW;exact y0
   replace y1:W.cell? (aa Y (o2+i * 2+1))=some (sc y.p y.txt.length y.cap):=by subst hW;exact y1
   have K:=hid hW;rw [hW];have I:=Tryz.mixed;clear Z hy Q J M T F P hW
   by_cases hst:x.name=y.name
   ·obtain ⟨U,s⟩:=eE y.name;rw [hst,s] at B;rw [s] at y0;have V:Hid (x.name=U/\y.name=U):=⟨hst.trans s,s⟩;clear hst s
    by_cases hts:x.txt=y.txt
    ·have a:=xas hts;have ad:=hid hts;rw [a] at l;clear a hts;go_wp2_with fail;refine wp_region_quiet_lit I (by kernel_rfl) ?_
     repeat (go_big_quiet_step (first|(go_at_call 68;refine Calls.quiet_of (l.o _))))
     refine wpQuiet_nil ?_;intro _ f;obtain ⟨t,A⟩:=f;subst A;go_wp2_with fail;go_roundg (d.length-(i+1))
     case measure=>omega
     refine ⟨i+1,m+t,by go_num,by omega,by omega,by rw [<-K.o,World.drewN_drewN],fun j hj=>?_⟩
     by_cases ej:j=i
     ·subst ej;rw [G.out,H.out];unfold Fx.fld;rw [V.o.1,V.o.2,ad.o]
     exact R.o j (by omega)
    have a:=xar hts;rw [a] at l
    have b:Hid (r=false):=C.o.symm.trans (xar fun z=>hts (by
     have:=G.out;rw [z,H.out] at this;have:=xad Prod.snd (zaP this);exact this.symm))
    clear a hts;go_wp2_with fail;refine wp_region_quiet_lit I (by kernel_rfl) ?_
    repeat (go_big_quiet_step (first|(go_at_call 68;refine Calls.quiet_of (l.o _))))
    refine wpQuiet_nil ?_;intro _ f;obtain ⟨t,A⟩:=f;subst A;go_wp2_with fail;go_ret;exact ⟨zH b.o.symm,m+t,by rw [<-K.o,World.drewN_drewN]⟩
   have ah:=zN6 hst
   have b:Hid (r=false):=C.o.symm.trans (xar fun z=>hst (by
    have:=G.out;rw [z,H.out] at this;have:=xad Prod.fst (zaP this);exact this.symm))
   go_wp2_with fail
   refine wp_region_quiet_lit I (by kernel_rfl) ?_
   repeat (go_big_quiet_step (first|(go_at_call 68;refine Calls.quiet_of (l.o _))))
   refine wpQuiet_nil ?_;intro _ f;obtain ⟨t,A⟩:=f;subst A;go_wp2_with fail;go_ret;exact ⟨zH b.o.symm,m+t,by rw [<-K.o,World.drewN_drewN]⟩
  have ae:¬ (i:Int)<(d.length:Int):=by omega
  have b:Hid (r=true):=C.o.symm.trans (xas (xaU fun j=>by
   by_cases hj:j<d.length
   ·exact R.o j (by omega)
   grind))
  go_wp2_with fail
  go_ret;exact ⟨zH b.o.symm,_,rfl⟩
 have hb:((d.length:Int) != (e.length:Int))=true:=by simp;omega
 have b:Hid (r=false):=C.o.symm.trans (xar fun z=>hl (by have:=xad List.length z;grind));go_enter func23,ntmps23;go_wp2_with fail;go_ret;exact ⟨zH b.o.symm,0,rfl⟩
section
open Go.RowKit Go.Lib
theorem zFT (w:World) (g:Option Nat):w.grownBy w g:=⟨rfl,rfl,rfl,zaL _,fun _ _ _=>rfl⟩
theorem tI {ops:Array Oper} {rest:List Oper} {o:Oper} {a:Act} {Q:Exit->Act->World->Prop} (w:World) (A:o.guard=none) (s x:Operand) (t:TypeId)
  (ho:o.op=.call { callee:=.builtin .append,args:=#[s,x],argTypes:=#[t,t] })
  (base:Nat) (e:TypeId) (i:TypeInfo) (z:Value) (size bytes:Nat) (ht:prog.underlying t=some (.slice e)) (hi:prog.info? e=some i) (hz:i.zero=some z)
  (hsize:i.size=size) (hby:i.bytes=bytes) (hzs:z.cells.size=size) (hsz:0<size)
  (v:Value) (n:Nat) (xs:List Value) (hs:a.eval s=v) (hown:w.ownsRow base e size v n xs)
  (p:Option Addr) (m c:Nat) (news:List Value) (hx:a.eval x=.slice p m c) (hl:news.length=m * size)
  (hsrc:m=0∨∃f,p=some f/\∀j u,news[j]? = some u->w.cell? (f.add j)=some u) (h1:∀u∈news,u.oneCell'=true)
  (h63:n+m<=maxLen) (hbytes:(n+m) * bytes<=140737488355328) (hbase:base<=w.heap.size)
  (h:∀v' w',w'.ownsRow base e size v' (n+m) (xs++news)->w.grownBy w' v.ownBlock->wpList prog ops Q rest (a.put o.dst v') w'):wpList prog ops Q (o::rest) a w:=by
 rcases hsrc with rfl|⟨f,rfl,B⟩
 ·have y:news=[]:=List.length_eq_zero_iff.1 (by omega);subst y;obtain ⟨q,b,d,r,k⟩:∃q b,v=.slice q n b/\n<=b/\(q=none->n=0/\b=0):=by rcases hown.2 with ⟨d,h0⟩|⟨g,b,cur,d,_,_,B,_⟩<;>grind
  have C:(Builtin.append_ #[t,t] o.type #[.slice q n b,.slice p 0 c]).run prog w=.ok (.slice q n b) w:=by
   cases q with
   | none =>
    obtain ⟨rfl,rfl⟩:=k rfl
    cases p<;>simp [Builtin.append_,run_underlying ht,Builtin.lenOf,Builtin.firstCells,sizeOf,typeInfo,hi,loadCells,loadCellsFrom]
   | some q =>
   cases p<;>simp [Builtin.append_,run_underlying ht,Builtin.lenOf,Builtin.firstCells,sizeOf,typeInfo,hi,storeCells,loadCells,loadCellsFrom,r]
  rw [d] at hs;refine wpList_plain A fun K l=>?_
  unfold Oper.wp;simp [execOp,ho,resolve,invoke,builtin,hs,hx,C,Result.andThen];refine l _ _ (h _ _ ?_ (zFT _ _))<;>grind
 grind [wpList_append_own]
end
structure zC (α:Type) where
 T:TypeId
 k:Nat
 enc:α->List Value
 len:∀x,(enc x).length=k
 pos:0<k
 one:∀x,∀u∈enc x,u.oneCell'=true
def zC.cells {α:Type} (K:zC α) (d:List α):List Value:=d.flatMap K.enc
theorem zC.cells_one {α:Type} (K:zC α) (x:α):K.cells [x]=K.enc x:=by simp [zC.cells]
theorem zC.cells_append {α:Type} (K:zC α) (a b:List α):K.cells (a++b)=K.cells a++K.cells b:=List.flatMap_append
theorem zC.cells_len {α:Type} (K:zC α) (d:List α):(K.cells d).length=d.length * K.k:=by
 induction d with
 | nil=>simp [zC.cells]
 | cons x d ih =>
 have e:K.cells (x::d)=K.enc x++K.cells d:=rfl;rw [e,xah,K.len,ih,xa3,xbQ,Nat.one_mul,Nat.add_comm]
theorem zC.cells_get {α:Type} (K:zC α) (d:List α) (i:Nat) (h:i<d.length) (j:Nat) (hj:j<K.k):(K.cells d)[i * K.k+j]? = (K.enc d[i])[j]?:=by
 induction d generalizing i with
 | nil=>simp at h
 | cons x d ih =>
 have e:K.cells (x::d)=K.enc x++K.cells d:=rfl;rw [e]
 cases i with
 | zero=>rw [Nat.zero_mul,xaJ,xa7 (by rw [K.len];exact hj)];rfl
 | succ i =>
 have a:(K.enc x).length<=(i+1) * K.k+j:=by rw [K.len,xbQ,Nat.one_mul];omega
 rw [List.getElem?_append_right a,K.len]
 grind
theorem zC.cells_ones {α:Type} (K:zC α) (d:List α):∀u∈K.cells d,u.oneCell'=true:=by
 intro u a;obtain ⟨x,_,b⟩:=List.mem_flatMap.1 a;exact K.one x u b
def zC.At {α:Type} (K:zC α) (w:World) (b off:Nat) (d:List α):Prop:=∀i,(h:i<d.length)->∀j u,(K.enc d[i])[j]? = some u->w.cell? ⟨b,off+i * K.k+j,none⟩=some u
def zC.Is {α:Type} (K:zC α) (w:World) (v:Value) (d:List α):Prop:=∃p cap,v=.slice p d.length cap/\(d=[]∨∃b off,p=some ⟨b,off,none⟩/\K.At w b off d)
def zC.Own {α:Type} (K:zC α) (n0:Nat) (w:World) (v:Value) (d:List α):Prop:=w.ownsRow n0 K.T K.k v d.length (K.cells d)
theorem zC.at_kept {α:Type} {K:zC α} {w e:World} {b a:Nat} {d:List α} (h:K.At w b a d) (f:Below w.heap.size w e):K.At e b a d:=fun i hi j u c=>(f.cell (p:=(aa b (a+i * K.k+j))) (zI (h i hi j u c))).trans (h i hi j u c)
theorem zC.is_kept {α:Type} {K:zC α} {w a:World} {v:Value} {d:List α} (h:K.Is w v d) (c:Below w.heap.size w a):K.Is a v d:=by
 obtain ⟨p,e,rfl,h⟩:=h;refine ⟨p,e,rfl,?_⟩
 rcases h with h|⟨b,f,g,h⟩
 ·grind
 exact xaf ⟨b,f,g,K.at_kept h c⟩
theorem zC.is_nil {α:Type} (K:zC α) (w:World):K.Is w (.slice none 0 0) []:=⟨none,0,rfl,xac rfl⟩
theorem zC.own_nil {α:Type} (K:zC α) (n0:Nat) (w:World):K.Own n0 w (.slice none 0 0) []:=xbx _ _ _ _
theorem zC.own_on {α:Type} {K:zC α} {n0:Nat} {w a:World} {v:Value} {d:List α} (h:K.Own n0 w v d) (b:Below w.heap.size w a):K.Own n0 a v d:=_root_.Go.Proofs.YtkhljboeffhciaaGreat.own_on h b
theorem zC.own_weak {α:Type} {K:zC α} {n0 a:Nat} {w:World} {v:Value} {d:List α} (h:K.Own n0 w v d) (b:a<=n0):K.Own a w v d:=_root_.Go.Proofs.YtkhljboeffhciaaGreat.own_weak h b
theorem zC.own_shape {α:Type} {K:zC α} {n0:Nat} {w:World} {v:Value} {d:List α} (h:K.Own n0 w v d):∃p a,v=.slice p d.length a:=by rcases h.2 with ⟨b,c⟩|⟨g,a,e,b,_⟩<;>grind
theorem zC.own_is {α:Type} {K:zC α} {n0:Nat} {w:World} {v:Value} {d:List α} (h:K.Own n0 w v d):K.Is w v d:=by
 rcases h.2 with ⟨rfl,l⟩|⟨g,c,a,rfl,_,m,_,_,o,n⟩
 ·obtain rfl:=List.length_eq_zero_iff.1 l;exact K.is_nil w
 refine ⟨_,c,rfl,xaf ⟨g,0,rfl,fun i hi j u b=>?_⟩⟩
 have hj:j<K.k:=by
  have:=(gL b).1
  rwa [K.len] at this
 have f:i * K.k+j<d.length * K.k:=by
  have e:(i+1) * K.k<=d.length * K.k:=xa1 _ hi;rw [xbQ,Nat.one_mul] at e;omega
 rw [xaJ,cell_of_row w g _ a _ _ m,<-xbw];have:(K.cells d)[i * K.k+j]? = a.toList[i * K.k+j]?:=by rw [<-n,xa8,xae f]
 rw [<-this,K.cells_get d i hi j hj,b]
theorem zC.src {α:Type} {K:zC α} {w:World} {p:Option Addr} {d:List α} (h:d=[]∨∃b a,p=some ⟨b,a,none⟩/\K.At w b a d):d.length=0∨∃ad,p=some ad/\∀j u,(K.cells d)[j]? = some u->w.cell? (ad.add j)=some u:=by
 rcases h with rfl|⟨b,a,rfl,i⟩
 ·grind
 refine xaf ⟨_,rfl,fun j u g=>?_⟩
 have hj:j<d.length * K.k:=by
  have:=(gL g).1
  rwa [K.cells_len] at this
 have f:j / K.k<d.length:=(xbY K.pos).2 hj;have l:j % K.k<K.k:=Nat.mod_lt _ K.pos;have e:j / K.k * K.k+j % K.k=j:=by rw [Nat.mul_comm];exact Nat.div_add_mod j K.k
 have c:=K.cells_get d (j / K.k) f (j % K.k) l;rw [e,g] at c;have:=i (j / K.k) f (j % K.k) u c.symm
 grind [addr_add]
theorem zC.news {α:Type} (K:zC α) (w:World) (x:α):∀j u,(K.cells [x])[j]? = some u->(w.alloc (.cells (K.enc x).toArray K.T)).cell? ((⟨w.heap.size,0,none⟩:Addr).add j)=some u:=by
 intro j u a;rw [K.cells_one] at a
 simp_all [addr_add]
theorem zC.own_snoc {α:Type} {K:zC α} {n0:Nat} {w:World} {v:Value} {d:List α} {x:α} {n:Nat} {a:List Value} (h:w.ownsRow n0 K.T K.k v n a) (c:n=d.length+1) (b:a=K.cells d++K.cells [x]):K.Own n0 w v (d++[x]):=by
 subst c b;unfold zC.Own;rw [K.cells_append,xah];exact h
section
variable {w W:World} {n0 size n:Nat} {e:TypeId} {v:Value} {xs:List Value} {P Q:Nat→Prop}
theorem fG {b:World} (h:w.ownsRow n0 e size v n xs) (c:∀k,v.ownBlock=some k->b.heap[k]? = w.heap[k]?):b.ownsRow n0 e size v n xs:=by
 refine ⟨h.1,?_⟩
 rcases h.2 with m|⟨g,i,j,a,f,d,l⟩
 ·grind
 exact xaf ⟨g,i,j,a,f,(c g (by rw [a];rfl)).trans d,l⟩
structure Fr (P:Nat->Prop) (w W:World):Prop where
 os:W.os=w.os
 tape:W.tape=w.tape
 output:W.output=w.output
 size:w.heap.size<=W.heap.size
 block:∀k,k<w.heap.size->¬ P k->W.heap[k]? = w.heap[k]?
theorem Fr.refl (P:Nat->Prop) (w:World):Fr P w w:=⟨rfl,rfl,rfl,zaL _,fun _ _ _=>rfl⟩
theorem Fr.then {a b c:World} (h:Fr P a b) (k:Fr Q b c) (f:∀k,Q k->P k∨a.heap.size<=k):Fr P a c:=⟨k.os.trans h.os,k.tape.trans h.tape,k.output.trans h.output,zaU h.size k.size,fun j hj d=>(k.block j (zaT hj h.size) fun g=>by grind).trans (h.block j hj d)⟩
theorem Fr.mono (h:Fr P w W) (d:∀k,P k->Q k):Fr Q w W:=⟨h.os,h.tape,h.output,h.size,fun k b c=>h.block k b fun a=>c (d k a)⟩
theorem Fr.of_below (h:Below w.heap.size w W):Fr P w W:=⟨h.os,h.tape,h.output,h.size,fun k a _=>h.block k a⟩
theorem Fr.of_grown {a:Option Nat} (h:w.grownBy W a) (b:∀k,a=some k->P k):Fr P w W:=⟨h.os,h.tape,h.output,h.size,fun k c d=>h.block k c fun e=>d (b k e.symm)⟩
theorem Fr.below (h:Fr P w W) {N:Nat} (d:N<=w.heap.size) (a:∀k,P k->N<=k):Below N w W:=⟨h.os,h.tape,h.output,h.size,fun k c=>h.block k (by omega) fun b=>by grind⟩
theorem Fr.row (f:Fr P w W) (h:w.ownsRow n0 e size v n xs) (b:∀k,v.ownBlock=some k->¬ P k):W.ownsRow n0 e size v n xs:=fG h fun k a=>f.block k (zaW h k a).2 (b k a)
theorem Fr.cell {a:Addr} (f:Fr P w W) (h:w.cell? a=some v) (b:¬ P a.block):W.cell? a=some v:=(xap (f.block a.block (zI h) b)).trans h
end
section
open Go.RowKit Go.Lib
theorem zIa (o:List Fx) (i:Nat) (h:i<o.length) (x:Fx):yT (o.set i x)=((yT o).set (i * 2) (.string x.name)).set (i * 2+1) x.sl:=by
 induction o generalizing i with
 | nil=>simp at h
 | cons y o ih =>
 have e:∀z l,yT (z::l)=tq z.name::z.sl::yT l:=fun _ _=>rfl
 cases i with
 | zero=>grind
 | succ i=>grind
def zQ5 (x:ByteArray):List Value:=[.string x]
def KT:zC ByteArray:=⟨9,1,zQ5,fun _=>rfl,by decide,fun x u hu=>by simp [zQ5] at hu;subst hu;rfl⟩
theorem vO (N:Nat) (w:World):zW N w (.slice none 0 0) []:=⟨⟨xbx _ _ _ _,fun x a=>by simp at a⟩,xan⟩
def xO (d:List Fx):Prop:=d.length * 40<=140737488355328/\∀x∈d,x.txt.length * 16<=140737488355328
theorem zM {N M:Nat} {w:World} {u:Value} {o:List Fx} (h:zW N w u o) (a:M<=N):zW M w u o:=⟨⟨own_weak h.1.1 a,fun x b=>own_weak (h.1.2 x b) a⟩,h.2⟩
theorem zJX (v:Value) (d:List Fx) (w:World) (hv:wH w v d) (hf:yW d) (R:xO d):CC 43 #[v] w fun e T=>∃u o,e=.returned u/\zW w.heap.size T u o/\o.map Fx.fld=d.map Fx.fld/\Below w.heap.size w T:=by
 obtain ⟨j0,ao,aj,an,ak⟩:=xaL Tryz.infoFld;obtain ⟨i0,hi0,hz0,hz1,hz2⟩:=xaL Tryz.infoStr;have HJ:=hid ao;have HI:=hid hi0;obtain ⟨p,cap,rfl,hd,ht⟩:=hv;have HD:=hid hd;have HX:=hid ht;have hl:=hf.1;unfold maxLen at hl;have be:=R.1;have ar:=hid R.2;go_enter func43,ntmps43;go_wp2_with fail
 go_loopg [3,4] d.length (fun g K vi wr=>∃(i:Nat) (o:List Fx),vi=ii i/\i<=d.length/\d.length-i<=g/\Hid (o.map Fx.fld=(d.take i).map Fx.fld)/\Hid (zW w.heap.size wr K o)/\Hid (Bw w wr))
 case atStart=>exact ⟨0,[],rfl,by omega,by omega,by show _=_;simp,vO _ _,zaR _ _⟩
 obtain ⟨i,o,rfl,hi,bg,A,H,E⟩:=hrel;have bb:o.length=i:=by have:=xad List.length A.o;simp at this;omega
 by_cases hlt:i<d.length
 ·have aw:(i:Int)<(d.length:Int):=by omega
  have bd:(0:Int)<=i:=by omega
  obtain ⟨b,c,rfl,ap⟩:∃b c,p=some (aa b c)/\zHT w b c d:=by
   rcases HD.o with h|h
   ·grind
   exact h
  have J:(d[i]).at w:=HX.o _ (zaN hlt);have X:=ar.o _ (zaN hlt);have m:=ap i hlt
  have G:(d.take (i+1)).map Fx.fld=(d.take i).map Fx.fld++[(d[i]).fld]:=by
   rw [zaK hlt,xak];simp
  obtain ⟨x,hx⟩:=eE (d[i]);rw [hx] at J X m G;obtain ⟨nm,p5,c5,ts⟩:=x;simp only [Fx.at,Fx.sl,Fx.fld] at J X m G;have ad:=hid G;have au:=hid J
  have aq:Hid (∀W,Bw w W->W.cell? (aa b (c+i * 2))=some (tq nm)/\W.cell? (aa b (c+i * 2+1))=some (sc p5 ts.length c5)):=fun W f =>
   ⟨(f.cell (p:=(aa b (c+i * 2))) (zI m.1)).trans m.1,(f.cell (p:=(aa b (c+i * 2+1))) (zI m.2)).trans m.2⟩
  have S:Hid (∀y∈o,∀k,y.sl.ownBlock=some k->k<wr.heap.size):=fun y B k a=>(zaW (show wr.ownsRow w.heap.size 9 1 y.sl y.txt.length (y.txt.map Value.string) from H.o.1.2 y B) k a).2
  have D:=E.o.size;obtain ⟨M,C⟩:=eE wr.heap.size;obtain ⟨W0,hW0⟩:=eE wr
  have av:Hid (∀W,Below M W0 W->Bw w W/\zW w.heap.size W u3 o):=fun W f=>by
   rw [<-hW0,<-C] at f;exact ⟨zA E.o D f,H.o.on f⟩
  have az:Hid (Below M W0 W0):=zaR _ _;have ay:Hid (M=W0.heap.size):=by show _=_;rw [<-hW0];exact C.symm
  rw [C] at S D;have ba:Hid (tR M W0 (sc none 0 0) (ts.take 0)):=by show tR _ _ _ _;rw [List.take_zero];exact xbx _ _ _ _
  go_wp2_with fail
  go_loopg [5,6] ts.length (fun g K vj Y=>∃j:Nat,vj=ii j/\j<=ts.length/\ts.length-j<=g/\Hid (tR M Y K (ts.take j))/\Hid (Below M W0 Y))
  case atStart=>grind
  obtain ⟨j,rfl,hj,bc,l,F⟩:=hrel;obtain ⟨hbw,hoj⟩:=av.o wr F.o;obtain ⟨e0,e1⟩:=aq.o wr hbw;have am:M<=wr.heap.size:=by have:=F.o.size;have h2:=ay.o;omega
  have ah:(ts.take j).length=j:=by rw [xa2];omega
  by_cases hlj:j<ts.length
  ·have af:(j:Int)<(ts.length:Int):=by omega
   have bf:(0:Int)<=j:=by omega
   obtain ⟨P,Q,rfl,V⟩:∃b o,p5=some (aa b o)/\∀i,(h:i<ts.length)->w.cell? (aa b (o+i))=some (tq ts[i]):=by
    rcases au.o with h|h
    ·grind
    exact h
   have t0:wr.cell? (aa P (Q+j))=some (tq ts[j]):=(hbw.cell (p:=(aa P (Q+j))) (zI (V j hlj))).trans (V j hlj);have Z:ts.take (j+1)=ts.take j++[ts[j]]:=zaK hlj;obtain ⟨t,ax⟩:=eE (ts[j]);rw [ax] at t0 Z;have N:=hid Z;obtain ⟨acc,hacc⟩:=eE (ts.take j);rw [hacc] at l N ah;go_wp2_with (at_builtin;refine xbj _ rfl _ _ 80 rfl M 9 i0 (tq ⟨#[]⟩) 1 16 underlying80 HI.o hz0 hz1 hz2 rfl (by decide) _ _ _ rfl (xbp l.o _) _ 1 1 [tq t] rfl rfl (fun j u hj=>KT.news wr t j u hj) (by intro u U;simp at U;subst U;rfl) (by unfold maxLen;omega) (by omega) (by simp;omega) ?_;intro v4 w4 s n I;have ab:=hid s;have z:=hid n;clear s n I);go_roundg (ts.length-(j+1))
   case measure=>omega
   refine ⟨j+1,by go_num,by omega,by omega,?_,?_⟩
   ·rw [N.o]
    grind [tR]
   exact (F.o.alloc am _).grown z.o (by simp;omega) (fun k a=>(zaW l.o k a).1)
  have af:¬ (j:Int)<(ts.length:Int):=by omega
  have ag:ts.take j=ts:=xaj (by omega);rw [ag] at l;obtain ⟨r,q,ac⟩:=pH l.o;subst ac;have L:=hid hoj;have al:=hid hbw;have ae:=hbw.size;go_wp2_with (at_builtin;refine xbj _ rfl _ _ 37 rfl w.heap.size 82 j0 (.agg #[tq ⟨#[]⟩,sc none 0 0]) 2 40 underlying37 HJ.o aj an ak rfl (by decide) _ _ _ rfl (xbp L.o.1.1 _) (aa wr.heap.size 0) 1 1 (yT [⟨nm,r,q,ts⟩]) rfl rfl (zQz wr ⟨nm,r,q,ts⟩) (zCP _) (by unfold maxLen;omega) (by omega) (by simp;omega) ?_;intro v4 w4 s n I;have ab:=hid s;have z:=hid n;clear s n I);go_roundg (d.length-(i+1))
  case measure=>omega
  refine ⟨i+1,o++[⟨nm,r,q,ts⟩],by go_num,by omega,by omega,?_,?_,?_⟩
  ·show _=_
   rw [xak,A.o,ad.o];rfl
  ·have O:=(zaR wr.heap.size wr).alloc (zaL _) (.cells #[tq nm,sc r ts.length q] 82);exact zJ7 (M:=M) (L.o.on O) (show tR M _ (Fx.sl ⟨nm,r,q,ts⟩) ts from tR.on l.o O) (fun y B k a=>S.o y B k a) D ab.o z.o
  exact (al.o.alloc ae _).grown z.o (by simp;omega) (fun k a=>(zaW L.o.1.1 k a).1)
 have aw:¬ (i:Int)<(d.length:Int):=by omega
 have ai:d.take i=d:=xaj (by omega);rw [ai] at A;go_wp2_with fail;go_ret;exact ⟨_,rfl,o,H.o,A.o,E.o⟩
end
section
open Go.ChangeShapes Go.WideShapes Go.ChangeAt Go.RowKit Go.Lib Go.Deep Go.Joins
theorem Tryz.own:ownKnob prog.godebug=none:=by kernel_rfl
theorem Tryz.laidOut:laidOutB prog=true:=by kernel_rfl
theorem Tryz.cellsFld:prog.cellsOf 82=2:=by kernel_rfl
theorem Tryz.cellsStr:prog.cellsOf 9=1:=by kernel_rfl
theorem Tryz.cellsStrs:prog.cellsOf 80=1:=by kernel_rfl
end
section
open Go.ChangeShapes Go.WideShapes Go.ChangeAt Go.RowKit Go.Lib Go.Deep Go.Joins
theorem Tryz.bytesStr:prog.bytesOf 9=16:=by kernel_rfl
theorem Tryz.bytesFld:prog.bytesOf 82=40:=by kernel_rfl
theorem gK {H:Type} {P:Program} {e:TypeId} {d:DataW H} {n:Nat} (a:n∈d.weights P e):∀{l:List (DataW H)},d∈l->n∈DataW.weightsAll P e l
 | x::r,h=>by
  simp only [DataW.weightsAll,List.mem_append]
  rcases List.mem_cons.1 h with rfl|h
  ·grind
  exact xaf (gK a h)
theorem zLp {H:Type} {enc:TypeId × Value->H} {W:World} {f:Nat} {v:Value} {x:DataW H × List MemPlace} (h:DataW.trod enc prog W 0 (fun _=>true) true f 80 [v]=some x):∃p cap,∃ts:List ByteArray,v=.slice p ts.length cap/\pA W p ts/\zKd ts/\(ts.length=0∨∃n∈x.1.weights prog 80,ts.length * 16<=n):=by
 rcases open_strings underlying80 underlying9 Tryz.cellsStr h with ⟨d,k⟩|⟨a,l,c,e,d,_,z,y,r,k,m,q⟩
 ·simp at d
  exact ⟨none,0,[],d,xac rfl,⟨by grind,fun t g=>by simp at g⟩,xac rfl⟩
 simp at d
 have hz':e.length=c:=by simpa using r
 have j:(e.take l).length=l:=by rw [xa2];omega
 refine ⟨some a,c,e.take l,by grind,?_,⟨by omega,fun t g=>q t (List.mem_of_mem_take g)⟩,xaf ?_⟩
 ·by_cases h0:l=0
  ·subst h0;exact xac rfl
  right;have u:=m 0 (by omega);obtain ⟨b,o,w⟩:=a;have s:w=none:=by simpa [Addr.add] using World.cell?_spot u
  subst s;refine ⟨b,o,rfl,fun i hi=>?_⟩;rw [j] at hi;have:=m i (by omega)
  grind [addr_add]
 rw [k,j];simp only [DataW.weights,underlying80];refine ⟨_,zaH,?_⟩;rw [Tryz.bytesStr]
 grind [strs]
theorem zI9 {H:Type} {enc:TypeId × Value->H} {W:World} {w:Nat} {v:Value} {dd:DataW H} {p:List MemPlace}
  (hf:DataW.trod enc prog W 0 (fun _=>true) true w 37 [v]=some (dd,p)) (hZ:∀n∈dd.weights prog 37,n<=reachBytes):∃d:List Fx,wH W v d/\yW d/\xO d:=by
 have M:=reachBytes_lt
 rcases open_slice_pairs underlying37 underlying82 Tryz.cellsFld rfl rfl Tryz.cellsStr Tryz.cellsStrs hf with ⟨l,_⟩|⟨a,e,C,m,n,o,u,k,g,R,S,l,_,Q,P,F,G,r⟩
 ·simp at l
  subst l;exact ⟨[],⟨none,0,rfl,xac rfl,fun x c=>by simp at c⟩,⟨by grind,fun x c=>by simp at c⟩,by simp,fun x c=>by simp at c⟩
 simp at l
 subst l;have hm':m=C:=by simpa using F
 subst hm'
 have L:∀i,i<m->∃x:Fx,o i=.string x.name/\u i=x.sl/\pA W x.p x.txt/\zNq x.fld/\(x.txt.length=0∨∃n∈(g i).weights prog 80,x.txt.length * 16<=n):=by
  intro i hi;obtain ⟨_,_,A,I⟩:=r i hi;obtain ⟨s,e0,_,hs⟩:=xbT underlying9 A;simp only [xbs,and_true] at e0;obtain ⟨q,cc,ts,e1,ht,hft,hbk⟩:=zLp I;exact ⟨⟨s,q,cc,ts⟩,e0,e1,ht,⟨hs,hft⟩,hbk⟩
 have t:dd=.slice ((List.range e).map fun i=>.agg [k i,g i]) ((List.range (m-e)).map fun j=>.agg [k (e+j),g (e+j)]):=xad Prod.fst G
 have N:e * 40<=reachBytes:=by
  have:=hZ ((((List.range e).map fun i=>DataW.agg [k i,g i]).length+((List.range (m-e)).map fun j=>DataW.agg [k (e+j),g (e+j)]).length) * prog.bytesOf 82) (by
   rw [t];simp [DataW.weights])
  rw [Tryz.bytesFld] at this;simp only [zaM,xbR] at this;omega
 have O:∀i,i<e->∀n∈(g i).weights prog 80,n<=reachBytes:=fun i hi n B=>by
  refine hZ n ?_;rw [t];simp only [DataW.weights,underlying37];refine xay _ (zaG (xac (gK (d:=.agg [k i,g i]) ?_ (List.mem_map.2 ⟨i,List.mem_range.2 hi,rfl⟩))));simp only [DataW.weights,underlying82];exact zaG (xaf (zaG (xac B)))
 by_cases h0:e=0
 ·subst h0;exact ⟨[],⟨_,_,rfl,xac rfl,fun x c=>by simp at c⟩,⟨by grind,fun x c=>by simp at c⟩,by simp,fun x c=>by simp at c⟩
 have J:=(r 0 (by omega)).1;obtain ⟨b,D,K⟩:=a;have y:K=none:=by simpa [Addr.add] using World.cell?_spot J
 subst y
 let f:Nat->Fx:=fun i=>if h:i<m then (L i h).choose else default
 have E:∀i (h:i<m),o i=.string (f i).name/\u i=(f i).sl/\pA W (f i).p (f i).txt/\zNq (f i).fld/\((f i).txt.length=0∨∃n∈(g i).weights prog 80,(f i).txt.length * 16<=n):=fun i h=>by grind
 have z:((List.range e).map f).length=e:=by simp
 refine ⟨(List.range e).map f,⟨_,m,by rw [z],xaf ⟨b,D,rfl,fun i hi=>?_⟩,fun x c=>?_⟩,⟨by omega,fun x c=>?_⟩,by omega,fun x c=>?_⟩
 ·grind [addr_add]
 ·obtain ⟨i,hi,rfl⟩:=List.mem_map.1 c;exact (E i (by grind)).2.2.1
 ·grind
 grind
end
section
open Go.RowKit Go.Lib
section
variable {a b:ByteArray}
def ltB (a b:ByteArray):Bool:=decide (Lib.compareBytes a.data.toList b.data.toList<0)
theorem zFk (h:a.data.toList=b.data.toList):a=b:=by
 obtain ⟨⟨a⟩⟩:=a
 simp_all
theorem zOx (h:ltB a b=false) (k:ltB b a=false):a=b:=by grind [ltB,zFk,mZ,zC6]
theorem cV (a:ByteArray):ltB a a=false:=by grind [ltB,jH]
theorem zK5 (h:ltB a b=true):ltB b a=false:=by
 unfold ltB at *;rw [xaQ] at h
 grind [zC6]
theorem zBA {c:ByteArray} (h:ltB a b=true) (k:ltB b c=true):ltB a c=true:=by
 unfold ltB at *;rw [xaQ] at *;exact qN _ _ _ h k
theorem zBD (a b:ByteArray):ltB a b=true∨a=b∨ltB b a=true:=by grind [zOx]
theorem zG3 {c:Bool} (h:ltB a b=c):Op.bytesLess a.toList b.toList=c:=by grind [ltB,Lib.toList_data,zKI]
theorem tN (h:a≠b):(a.toList==b.toList)=false:=by grind [Lib.toList_data,zFk]
theorem zCS (h:a=b):(a.toList==b.toList)=true:=by rw [h];simp
theorem zLC (h:a.size=0):a.toList.isEmpty=true:=by simp_all
theorem zOY {a:ByteArray} (h:a.size≠0):a.toList.isEmpty=false:=by
 rw [xbt]
 cases e:a.data.toList with
 | nil=>exact absurd (by simpa using xad List.length e) h
 | cons _ _=>rfl
end
end
section
open Go.RowKit Go.Lib
abbrev Ky:=ByteArray × ByteArray
structure Tot {α:Type} (lt:α->α->Bool):Prop where
 irr:∀a,lt a a=false
 tr:∀a b c,lt a b=true->lt b c=true->lt a c=true
 tot:∀a b,lt a b=true∨a=b∨lt b a=true
def yU {α:Type} (lt:α->α->Bool) (l:List α):Prop:=l.Pairwise fun x y=>lt x y=true
def qJ {α:Type} [DecidableEq α] (lt:α->α->Bool) (x:α):List α->List α
 | []=>[x]
 | y::r=>if lt x y then x::y::r else if x=y then y::r else y::qJ lt x r
theorem mF {α:Type} [DecidableEq α] (a:α->α->Bool) (x z:α) (l:List α):z∈qJ a x l↔z=x∨z∈l:=by
 induction l with
 | nil=>simp [qJ]
 | cons y r ih=>grind [qJ]
theorem qI {α:Type} [DecidableEq α] {b:α->α->Bool} (T:Tot b) (x:α) {l:List α} (h:yU b l):yU b (qJ b x l):=by
 induction l with
 | nil=>exact List.pairwise_cons.2 ⟨fun _ h=>by simp at h,xan⟩
 | cons y r ih =>
 obtain ⟨c,d⟩:=List.pairwise_cons.1 h;unfold qJ
 split
 ·next hx =>
  refine List.pairwise_cons.2 ⟨fun z a=>?_,h⟩
  rcases List.mem_cons.1 a with rfl|a
  ·exact hx
  exact T.tr _ _ _ hx (c z a)
 next hx =>
 split
 ·exact h
 next hne =>
 refine List.pairwise_cons.2 ⟨fun z a=>?_,ih d⟩
 rcases (mF b x z r).1 a with rfl|a
 ·rcases T.tot y z with h|h|h<;>grind
 grind
theorem vF {α:Type} {b:α->α->Bool} (T:Tot b):∀{r s:List α},yU b r->yU b s->(∀x,x∈r↔x∈s)->r=s
 | [],[],_,_,_=>rfl
 | [],y::s,_,_,h=>by have:=(h y).2 (by simp);simp at this
 | x::r,[],_,_,h=>by have:=(h x).1 (by simp);simp at this
 | x::r,y::s,hr,hs,h=>by
  obtain ⟨f,i⟩:=List.pairwise_cons.1 hr;obtain ⟨s1,s2⟩:=List.pairwise_cons.1 hs
  have k:x=y:=by
   rcases List.mem_cons.1 ((h x).1 (by simp)) with e|j
   ·exact e
   rcases List.mem_cons.1 ((h y).2 (by simp)) with e|g
   ·exact e.symm
   have d:=T.tr _ _ _ (f y g) (s1 x j);rw [T.irr] at d
   cases d
  subst k;rw [vF T i s2 fun z=>?_];constructor
  ·intro a
   rcases List.mem_cons.1 ((h z).1 (xay _ a)) with e|c
   ·subst e;have:=f z a;rw [T.irr] at this;cases this
   exact c
  intro a
  rcases List.mem_cons.1 ((h z).2 (xay _ a)) with e|c
  ·subst e;have:=s1 z a;rw [T.irr] at this;cases this
  exact c
theorem zIJ {α:Type} [DecidableEq α] {a:α->α->Bool} (T:Tot a) {x:α} {l:List α} (h:yU a l) (b:x∈l):qJ a x l=l:=vF T (qI T x h) h fun z=>by grind [mF]
def yR (a b:Ky):Bool:=ltB a.1 b.1||(decide (a.1=b.1)&&ltB a.2 b.2)
theorem fX {a b:Ky}:yR a b=true↔ltB a.1 b.1=true∨a.1=b.1/\ltB a.2 b.2=true:=by simp [yR]
theorem wX:Tot yR where
 irr a:=by grind [fX,cV]
 tr a b c h k:=by grind [fX,zBA]
 tot a b:=by grind [fX,zBD]
end
abbrev Tm:=ByteArray × Int × ByteArray
def vQ (x:Tm):List Value:=[.string x.1,.int .i64 x.2.1,.string x.2.2]
def KM:zC Tm:=⟨239,3,vQ,fun _=>rfl,by decide,fun x u hu=>by simp [vQ] at hu;rcases hu with rfl|rfl|rfl<;>rfl⟩
def qZ (p:List Tm):Prop:=p.length<=maxLen/\∀x∈p,x.1.size<=maxLen/\x.2.2.size<=maxLen/\-9223372036854775808<=x.2.1/\x.2.1<=9223372036854775807
def sZ (x:Tm):Bool:=decide (1<=x.2.1)&&decide (x.2.1<=7)&&(decide (x.2.1<6)||decide (x.2.2.size=0))
def bN (x:Tm):Bool:=jB x.1.data.toList
def kE (x:Tm):Bool:=decide (x.2.2.size<=128)
def nJ (p:List Tm):Int:=if 8<p.length then 5 else if p.all bN=false then 2 else if p.all sZ=false then 1 else if p.all kE=false then 5 else 0
def ltM (a b:Tm):Bool:=if a.1≠b.1 then ltB a.1 b.1 else if a.2.1≠b.2.1 then decide (a.2.1<b.2.1) else ltB a.2.2 b.2.2
theorem jF (a:Tm):ltM a a=false:=by simp [ltM,cV]
theorem zFI {a b:ByteArray} (h:ltB a b=true):a≠b:=by grind [cV]
theorem zAj (a b:Tm):ltM a b=true∨a=b∨ltM b a=true:=by grind [ltM,zBD]
theorem dE {a b c:Tm} (h:ltM a b=true) (k:ltM b c=true):ltM a c=true:=by
 obtain ⟨d,e,g⟩:=a;obtain ⟨b1,b2,b3⟩:=b;obtain ⟨c1,c2,c3⟩:=c;unfold ltM at *;simp only at *
 by_cases h1:d=b1
 ·subst h1
  by_cases k1:d=c1
  ·subst k1;simp only [ne_eq,not_true_eq_false,if_false] at *
   by_cases h2:e=b2
   ·subst h2
    by_cases k2:e=c2
    ·subst k2;simp only [not_true_eq_false,if_false] at *;exact zBA h k
    grind
   grind
  grind
 by_cases k1:b1=c1
 ·grind
 simp only [ne_eq,h1,k1,not_false_eq_true,if_true] at h k;have f:ltB d c1=true:=zBA h k;have i:d≠c1:=zFI f
 grind
theorem zLl {a b:Tm} (h:ltM a b=true):ltM b a=false:=by grind [dE,jF]
theorem zOf {a b:Tm} (h:ltM a b=true):a≠b:=by grind [jF]
def qF (l:List Tm):Prop:=l.Pairwise fun x y=>ltM x y=true
theorem cN:∀(a b:List Tm),qF a->qF b->(∀x,x∈a↔x∈b)->a=b
 | [],[],_,_,_=>rfl
 | [],y::b,_,_,h=>by have:=(h y).2 (by simp);simp at this
 | x::a,[],_,_,h=>by have:=(h x).1 (by simp);simp at this
 | x::a,y::b,g,f,h=>by
  have ha':=List.pairwise_cons.1 g;have hb':=List.pairwise_cons.1 f
  have c:x=y:=by
   rcases List.mem_cons.1 ((h x).1 (by simp)) with e|e
   ·exact e
   grind [zLl]
  subst c
  congr 1
  refine cN a b ha'.2 hb'.2 fun z=>⟨fun d=>?_,fun d=>?_⟩
  ·grind [zOf]
  grind [zOf]
def zAz (x:Tm):List Tm->List Tm
 | []=>[x]
 | y::l=>if ltM x y then x::y::l else if x=y then y::l else y::zAz x l
def xY (p:List Tm):List Tm:=p.foldl (fun acc x=>zAz x acc) []
theorem zHL (x z:Tm) (l:List Tm):z∈zAz x l↔z=x∨z∈l:=by
 induction l with
 | nil=>simp [zAz]
 | cons y l ih=>grind [zAz]
theorem zFp (x:Tm) (l:List Tm) (h:qF l):qF (zAz x l):=by
 induction l with
 | nil=>exact xaF _ _
 | cons y l ih =>
 have h':=List.pairwise_cons.1 h;unfold zAz
 split
 ·rename_i hlt
  refine List.pairwise_cons.2 ⟨fun z a=>?_,h⟩
  grind [dE]
 rename_i hlt
 split
 ·exact h
 rename_i hne
 refine List.pairwise_cons.2 ⟨fun z a=>?_,ih h'.2⟩
 grind [zHL,zAj]
theorem jN (p:List Tm):qF (xY p)/\∀x,x∈xY p↔x∈p:=by
 have:∀(l a:List Tm),qF a->qF (l.foldl (fun a x=>zAz x a) a)/\∀x,x∈l.foldl (fun a x=>zAz x a) a↔x∈a∨x∈l:=by
  intro l
  induction l with
  | nil=>grind
  | cons y l ih=>grind [zFp,zHL]
 obtain ⟨b,c⟩:=this p [] xan
 grind [xY]
theorem zEo {p l:List Tm} (a:qF l) (b:∀x,x∈l↔x∈p):l=xY p:=cN _ _ a (jN p).1 fun x=>(b x).trans ((jN p).2 x).symm
theorem zES (p:List Tm):(xY p).length<=p.length:=by
 have b:∀(x:Tm) (l:List Tm),(zAz x l).length<=l.length+1:=by
  intro x l
  induction l with
  | nil=>simp [zAz]
  | cons y l ih=>grind [zAz]
 have:∀(l a:List Tm),(l.foldl (fun a x=>zAz x a) a).length<=a.length+l.length:=by
  intro l
  induction l with
  | nil=>grind
  | cons y l ih=>grind
 grind [xY]
def zIG (p:List Tm):List Tm:=if nJ p=0 then xY p else []
theorem zAi {p:List Tm} (h:nJ p=0):p.length<=8/\p.all bN=true/\p.all sZ=true/\p.all kE=true:=by grind [nJ]
section
open Go.ChangeShapes Go.WideShapes Go.ChangeAt Go.RowKit Go.Lib Go.Deep Go.Joins
section
variable {n:Nat} {cs:List Value}
def zAH (k:Ky):Prop:=k.1.size<=maxLen/\k.2.size<=maxLen
theorem Tryz.cellsWInt:prog.cellsOf 3=1:=by kernel_rfl
theorem Tryz.cellsWStr:prog.cellsOf 9=1:=by kernel_rfl
theorem Tryz.cellsWU64:prog.cellsOf 24=1:=by kernel_rfl
theorem Tryz.cellsWFs:prog.cellsOf 37=1:=by kernel_rfl
theorem Tryz.cellsWTs:prog.cellsOf 38=1:=by kernel_rfl
theorem Tryz.cellsWKey:prog.cellsOf 36=2:=by kernel_rfl
theorem Tryz.cellsWTm:prog.cellsOf 239=3:=by kernel_rfl
theorem Tryz.bytesWTm:prog.bytesOf 239=40:=by kernel_rfl
theorem zLW {H:Type} (d:DataW H):1<=Rows.uptoBulk d:=by
 cases d with
 | lit l=>cases l<;>simp [Rows.uptoBulk]
 | nil=>simp [Rows.uptoBulk]
 | ptr d=>simp [Rows.uptoBulk]
 | slice elems spare=>simp [Rows.uptoBulk]
 | agg parts=>simp [Rows.uptoBulk]
 | iface t d=>simp [Rows.uptoBulk]
 | map entries=>simp [Rows.uptoBulk]
 | held h=>simp [Rows.uptoBulk]
theorem zM8 {H:Type} {d:DataW H} {l:List (DataW H)} (h:d∈l):Rows.uptoBulk d<=Rows.uptoBulkAll l:=by
 induction l with
 | nil=>cases h
 | cons x r ih=>grind [Rows.uptoBulkAll]
theorem zK9 {H:Type} (l:List (DataW H)):l.length<=Rows.uptoBulkAll l:=by
 induction l with
 | nil=>grind
 | cons x r ih=>grind [Rows.uptoBulkAll,zLW]
theorem zEb {α:Type} [Inhabited α] (K:zC α) {S:TypeId} {r:Nat} (A:prog.underlying S=some (.slice K.T)) (z:prog.cellsOf K.T=K.k) (B:prog.bytesOf K.T=r)
  {H:Type} (Ok:α->DataW H->Prop) {enc:TypeId × Value->H} {W:World} {fuel:Nat} {v:Value} {dd:DataW H} {p:List MemPlace}
  (each1:∀(n:Nat) (cs:List Value) (x:DataW H × List MemPlace),DataW.trod enc prog W 0 (fun _=>true) true n K.T cs=some x->(∀n∈x.1.weights prog K.T,n<=reachBytes)->∃b:α,cs=K.enc b/\Ok b x.1)
  (hf:DataW.trod enc prog W 0 (fun _=>true) true fuel S [v]=some (dd,p)) (hZ:∀n∈dd.weights prog S,n<=reachBytes):∃q:List α,K.Is W v q/\(∀x∈q,∃d,Rows.uptoBulk d<=Rows.uptoBulk dd/\Ok x d)/\q.length * r<=reachBytes/\q.length<=maxLen/\q.length<=Rows.uptoBulk dd:=by
 rcases open_slice A hf with ⟨e,_⟩|⟨a,c,G,m,n,D,F,e,_,Y,X,L,O,w⟩
 ·simp at e
  subst e;exact ⟨[],K.is_nil W,fun x g=>by simp at g,by simp,by simp,by simp⟩
 simp at e
 subst e;have hm':m=G:=by simpa using L
 subst hm';rw [z] at w;have y:dd=.slice ((List.range c).map D) ((List.range (m-c)).map fun j=>D (c+j)):=xad Prod.fst O
 have ab:c * r<=reachBytes:=by
  have:=hZ ((((List.range c).map D).length+((List.range (m-c)).map fun j=>D (c+j)).length) * prog.bytesOf K.T) (by grind [DataW.weights]);rw [B] at this;simp only [zaM,xbR] at this;exact zaU (xa1 _ (Nat.le_add_right _ _)) this
 have U:c<=Rows.uptoBulk dd:=by
  rw [y];simp only [Rows.uptoBulk];have:=zK9 ((List.range c).map D);simp only [zaM,xbR] at this;omega
 have Z:∀i,i<c->Rows.uptoBulk (D i)<=Rows.uptoBulk dd:=fun i hi=>by
  rw [y];simp only [Rows.uptoBulk];have:=zM8 (d:=D i) (l:=(List.range c).map D) (List.mem_map.2 ⟨i,List.mem_range.2 hi,rfl⟩);omega
 have R:∀i,i<c->∃t:α,(∀j u,(K.enc t)[j]? = some u->W.cell? (a.add (i * K.k+j))=some u)/\Ok t (D i):=by
  intro i hi;obtain ⟨ac,o,I⟩:=w i (by omega);obtain ⟨_,s,hcell⟩:=World.cells?_some o;have M:∀n∈(D i).weights prog K.T,n<=reachBytes:=fun n V=>by refine hZ n ?_<;>grind [DataW.weights,gK]
  obtain ⟨t,rfl,N⟩:=each1 _ _ (D i,F i) I M;refine ⟨t,fun j u h=>?_,N⟩
  have hj:j<K.k:=by
   have:=(List.getElem?_eq_some_iff.1 h).1
   rwa [K.len] at this
  have:=hcell j hj;rw [add_add] at this;rw [this];exact h
 by_cases h0:c=0
 ·subst h0;exact ⟨[],⟨_,_,rfl,xac rfl⟩,fun x g=>by simp at g,by simp,by simp,by simp⟩
 obtain ⟨f,E⟩:=choose_lt R;have o:0<(K.enc (f 0)).length:=by rw [K.len];exact K.pos
 have P:=(E 0 (by omega)).1 0 _ (xai o);obtain ⟨b,J,Q⟩:=a;have C:Q=none:=by simpa [Addr.add] using World.cell?_spot P
 subst C;have s:((List.range c).map f).length=c:=by simp
 refine ⟨(List.range c).map f,⟨_,m,by rw [s],xaf ⟨b,J,rfl,fun i hi j u h=>?_⟩⟩,fun x g=>?_,by grind,by omega,by omega⟩
 ·grind [_root_.Go.Proofs.YtkhljboeffhciaaGreat.addr_add]
 grind
section
variable {H:Type} {enc:TypeId × Value→H} {W:World}
theorem zO4 {x:DataW H × List MemPlace} (h:DataW.trod enc prog W 0 (fun _=>true) true n 36 cs=some x):∃k:Ky,cs=[.string k.1,.string k.2]/\zAH k:=by
 obtain ⟨i,k,_,_,e,j,f⟩:=DataW.trod_struct underlying36 h;rw [Tryz.cellsWKey] at e
 match cs,e with
 | [v0,v1],_ =>
  match i,j with
  | [y0,y1],_ =>
  have d:=f 0 _ rfl;have c:=f 1 _ rfl;simp [Tryz.cellsWStr] at d c;obtain ⟨a,g,_,l⟩:=xbT underlying9 d;obtain ⟨b,eb,_,hb⟩:=xbT underlying9 c;simp only [xbs,and_true] at g eb;exact ⟨(a,b),by rw [g,eb],l,hb⟩
theorem zIz {x:DataW H × List MemPlace} (h:DataW.trod enc prog W 0 (fun _=>true) true n 239 cs=some x):∃t:Tm,cs=vQ t/\t.1.size<=maxLen/\t.2.2.size<=maxLen/\-9223372036854775808<=t.2.1/\t.2.1<=9223372036854775807:=by
 obtain ⟨l,k,_,_,g,m,c⟩:=DataW.trod_struct underlying239 h;rw [Tryz.cellsWTm] at g
 match cs,g with
 | [v0,v1,v2],_ =>
  match l,m with
  | [y0,y1,y2],_ =>
  have f:=c 0 _ rfl;have d:=c 1 _ rfl;have j:=c 2 _ rfl;simp [Tryz.cellsWStr,Tryz.cellsWInt] at f d j;obtain ⟨a,i,_,p⟩:=xbT underlying9 f;obtain ⟨o,eo,_,ho⟩:=xbh underlying3 d;obtain ⟨b,eb,_,hb⟩:=xbT underlying9 j;simp only [xbs,and_true] at i eo eb
  have e:-9223372036854775808<=o/\o<=9223372036854775807:=by
   have:=ho;simp [Lit.wf,IntKind.min,IntKind.max,IntKind.signed,IntKind.bits] at this;omega
  exact ⟨(a,o,b),by rw [i,eo,eb];rfl,p,hb,e.1,e.2⟩
theorem zGJ {b:Nat} {v:Value} {dd:DataW H} {p:List MemPlace}
  (hf:DataW.trod enc prog W 0 (fun _=>true) true b 38 [v]=some (dd,p)) (hZ:∀n∈dd.weights prog 38,n<=reachBytes):∃q:List Tm,KM.Is W v q/\qZ q:=by
 obtain ⟨q,a,d,_,c,_⟩:=zEb KM underlying38 Tryz.cellsWTm Tryz.bytesWTm (fun t _=>t.1.size<=maxLen/\t.2.2.size<=maxLen/\-9223372036854775808<=t.2.1/\t.2.1<=9223372036854775807) (fun n cs x h _=>zIz h) hf hZ;exact ⟨q,a,c,fun x e=>(d x e).choose_spec.2⟩
end
end
end
structure Vr where
 num:Int
 stamp:Int
 tick:Int
 live:Bool
 val:List (ByteArray × List ByteArray)
 deriving Inhabited,DecidableEq
def zeroV:Vr:=⟨0,0,0,false,[]⟩
def wG (l:List Vr) (t:Int):Nat:=(l.takeWhile fun v=>decide (v.stamp<=t)).length
def atV (l:List Vr) (t:Int):Option Vr:=if wG l t=0 then none else l[wG l t-1]?
def vK (l:List Vr) (t:Int):List Vr:=l.drop (wG l t)
def vH (l:List Vr) (f:Int):Nat:=wG l f-1
def wV (l:List Vr) (f:Int):List Vr:=l.drop (vH l f)
def pR (l:List Vr):Prop:=l.Pairwise fun a b=>a.stamp<b.stamp
structure OkV (l:List Vr):Prop where
 rise:pR l
 nums:∀i,(h:i+1<l.length)->(l[i+1]).num=(l[i]'(by omega)).num+1
 two:∀i,(h:i+1<l.length)->(l[i+1]).live=true∨(l[i]'(by omega)).live=true
 first:∀v∈l,1<=v.num/\0<v.stamp/\(v.num=1->v.live=true)/\(v.live=false->v.val=[])
theorem zBy {l:List Vr} (h:pR l) {i j:Nat} (a:i<j) (hj:j<l.length):(l[i]'(by omega)).stamp<(l[j]).stamp:=List.pairwise_iff_getElem.1 h i j (by omega) hj a
theorem wP (l:List Vr) (t:Int):wG l t<=l.length:=by grind [wG,List.takeWhile_prefix]
theorem zEY (v:Vr) (l:List Vr) (t:Int):wG (v::l) t=if v.stamp<=t then wG l t+1 else 0:=by
 unfold wG
 by_cases h:v.stamp<=t
 ·simp_all
 simp_all
theorem tF:∀(l:List Vr) (t:Int) (i:Nat) (h:i<l.length),i<wG l t->(l[i]).stamp<=t
 | [],_,i,h,_=>by simp at h
 | v::l,t,i,h,hc=>by
  rw [zEY] at hc
  by_cases hv:v.stamp<=t
  ·rw [xae hv] at hc
   cases i with
   | zero=>exact hv
   | succ i=>exact tF l t i (by simpa using h) (by omega)
  grind
theorem sV:∀(l:List Vr),pR l->∀(t:Int) (i:Nat) (h:i<l.length),wG l t<=i->t<(l[i]).stamp
 | [],_,_,i,h,_=>by simp at h
 | v::l,hr,t,i,h,hc=>by
  obtain ⟨b,a⟩:=List.pairwise_cons.1 hr;rw [zEY] at hc
  by_cases hv:v.stamp<=t
  ·rw [xae hv] at hc
   cases i with
   | zero=>omega
   | succ i=>exact sV l a t i (by simpa using h) (by omega)
  grind
theorem zBS {l:List Vr} (g:pR l) {t:Int} {n:Nat} (f:n<=l.length) (e:∀i,(h:i<l.length)->i<n->(l[i]).stamp<=t) (c:∀i,(h:i<l.length)->n<=i->t<(l[i]).stamp):wG l t=n:=by
 have d:=wP l t
 rcases Nat.lt_trichotomy (wG l t) n with h|h|h
 ·grind [sV]
 ·exact h
 have a:=c n (by omega) (zaL _);have b:=tF l t n (by omega) h;omega
theorem zAk {l:List Vr} (h:pR l) (n:Nat):pR (l.drop n):=h.sublist (List.drop_sublist n l)
theorem zKs {l:List Vr} (a:pR l) {t:Int} {n:Nat} (c:n<=wG l t):wG (l.drop n) t=wG l t-n:=by
 have b:=wP l t;refine zBS (zAk a n) (by grind) (fun i h hi=>?_) (fun i h hi=>?_)
 ·rw [xaw] at h;rw [xaT];exact tF l t _ (by omega) (by omega)
 rw [xaw] at h;rw [xaT];exact sV l a t _ (by omega) (by omega)
theorem zLN {l:List Vr} (e:pR l) {t u:Int} (h:t<=u):wG l t<=wG l u:=by
 have f:=wP l t;have g:=wP l u
 rcases xbd (wG l u) (wG l t) with d|c
 ·have a:=tF l t (wG l u) (by omega) d;have b:=sV l e u (wG l u) (by omega) (zaL _);omega
 exact c
theorem zFc {l:List Vr} (a:pR l) {f t:Int} (h:f<=t):atV (wV l f) t=atV l t:=by
 have b:=zLN a h;unfold atV wV vH;rw [zKs a (by omega)]
 grind
theorem zHu (l:List Vr) (f:Int):(wV l f).getLast? = l.getLast?:=by grind [wV,vH,wP]
theorem fZ (l:List Vr) (f:Int):(wV l f).length=l.length-vH l f:=by grind [wV]
theorem zOJ:OkV []:=⟨xan,fun i h=>by simp at h,fun i h=>by simp at h,fun v h=>by cases h⟩
theorem zEj {l:List Vr} (h:OkV l) (n:Nat):OkV (l.drop n):=by
 refine ⟨zAk h.rise n,fun i hi=>?_,fun i hi=>?_,fun v a=>h.first v (xaK a)⟩
 ·rw [xaw] at hi;rw [xaT,xaT];exact h.nums (n+i) (by omega)
 rw [xaw] at hi;rw [xaT,xaT];exact h.two (n+i) (by omega)
theorem zFl {l:List Vr} (h:OkV l) (f:Int):OkV (wV l f):=zEj h _
theorem gR {l:List Vr} (h:OkV l):∀i,(hi:i<l.length)->(l[i]).num=(l[0]'(by omega)).num+i
 | 0,_=>by simp
 | i+1,hi=>by
  rw [h.nums i hi,gR h i (by omega)];omega
def qB (l:List Vr) (n:Int):Option Vr:=l.find? fun v=>decide (v.num=n)
theorem zAL {l:List Vr} (h:OkV l) (i:Nat) (hi:i<l.length):qB l (l[i]).num=some l[i]:=by grind [qB,List.find?_eq_some_iff_getElem,gR]
def yF (l:List Vr):Vr:=l.getLast?.getD zeroV
def mY (old field none:Int) (may:Bool) (l:List Vr) (stamp:Int) (live:Bool):Int:=if stamp=0∨stamp<=(yF l).stamp then old else if live=true/\may=false then field else if live=false/\(yF l).live=false then none else 0
def tY (l:List Vr) (stamp tick:Int) (live:Bool) (val:List (ByteArray × List ByteArray)):List Vr:=l++[⟨(yF l).num+1,stamp,tick,live,if live then val else []⟩]
theorem zHi (l:List Vr) (v:Vr):yF (l++[v])=v:=by simp [yF]
theorem tP {l:List Vr} (h:0<l.length):yF l=l[l.length-1]:=by grind [yF]
theorem zOV {l:List Vr} (h:OkV l) {old field none:Int} {may:Bool} {d tick:Int} {j:Bool} {p:List (ByteArray × List ByteArray)} (r:0<=d) (q:old≠0) (s:field≠0) (x:none≠0) (g:mY old field none may l d j=0):OkV (tY l d tick j p):=by
 unfold mY at g
 split at g
 ·omega
 next m =>
 split at g
 ·omega
 split at g
 ·omega
 next t =>
 have hl':j=true∨(yF l).live=true:=by
  cases j
  ·grind
  grind
 have hs':¬ d=0/\(yF l).stamp<d:=⟨fun e=>m (xac e),Int.not_le.1 fun e=>m (xaf e)⟩;refine ⟨?_,fun i hi=>?_,fun i hi=>?_,fun v f=>?_⟩
 ·refine List.pairwise_append.2 ⟨h.rise,xaF _ _,fun a o b k=>?_⟩;rw [xaH] at k;subst k;obtain ⟨i,hi,rfl⟩:=List.mem_iff_getElem.1 o;have u:=tP (l:=l) (by omega);show (l[i]).stamp<d
  rcases xbd i (l.length-1) with c|n
  ·have:=zBy h.rise c (by omega)
   grind
  grind
 ·unfold tY at hi ⊢;rw [xah,xaX] at hi
  rcases xbd (i+1) l.length with c|n
  ·rw [xaY c,xaY (by omega)];exact h.nums i c
  grind [tP]
 ·unfold tY at hi ⊢;rw [xah,xaX] at hi
  rcases xbd (i+1) l.length with c|n
  ·rw [xaY c,xaY (by omega)];exact h.two i c
  grind [tP]
 unfold tY at f;rw [List.mem_append,xaH] at f
 rcases f with f|rfl
 ·exact h.first v f
 have w:0<=(yF l).num/\((yF l).live=true->1<=(yF l).num):=by
  rcases xbg l.length with e|e
  ·obtain rfl:=List.length_eq_zero_iff.1 e;exact ⟨xbo _,fun h=>by cases h⟩
  rw [tP e];have:=(h.first _ (zaN (show l.length-1<l.length by omega))).1;omega
 grind
structure Vx where
 num:Int
 stamp:Int
 tick:Int
 live:Bool
 p:Option Addr
 cap:Nat
 o:List Fx
 deriving Inhabited
def Vx.sl (x:Vx):Value:=.slice x.p x.o.length x.cap
def Vx.ver (x:Vx):Vr:=⟨x.num,x.stamp,x.tick,x.live,x.o.map Fx.fld⟩
def Vx.at (w:World) (x:Vx):Prop:=wH w x.sl x.o
def zF (x:Vx):List Value:=[.int .i64 x.num,.int .u64 x.stamp,.int .i64 x.tick,.bool x.live,x.sl]
def KV:zC Vx:=⟨42,5,zF,fun _=>rfl,by decide,fun x u hu=>by simp [zF,Vx.sl] at hu;rcases hu with rfl|rfl|rfl|rfl|rfl<;>rfl⟩
theorem zBd {w:World} {b a:Nat} {d:List Vx} (h:KV.At w b a d) (i:Nat) (hi:i<d.length):w.cell? ⟨b,a+i * 5,none⟩=some (.int .i64 (d[i]).num)/\w.cell? ⟨b,a+i * 5+1,none⟩=some (.int .u64 (d[i]).stamp)/\w.cell? ⟨b,a+i * 5+2,none⟩=some (.int .i64 (d[i]).tick)/\w.cell? ⟨b,a+i * 5+3,none⟩=some (.bool (d[i]).live)/\w.cell? ⟨b,a+i * 5+4,none⟩=some (d[i]).sl:=⟨h i hi 0 _ rfl,h i hi 1 _ rfl,h i hi 2 _ rfl,h i hi 3 _ rfl,h i hi 4 _ rfl⟩
theorem zRB {x y:Vx}:x.ver=y.ver↔x.num=y.num/\x.stamp=y.stamp/\x.tick=y.tick/\x.live=y.live/\x.o.map Fx.fld=y.o.map Fx.fld:=by grind [Vx.ver]
theorem zLJ (x y:Vx) (w:World) (C:x.at w) (A:y.at w) (s:yW x.o) (q:yW y.o):CC 28 #[.agg (zF x).toArray,.agg (zF y).toArray] w fun e m=>e=.returned (.bool (decide (x.ver=y.ver)))/\Below w.heap.size w m:=by
 have f:Hid (∀W,Bw w W->CC 23 #[x.sl,y.sl] W fun r m=>r=.returned (.bool (decide (x.o.map Fx.fld=y.o.map Fx.fld)))/\∃n,m=W.drewN n):=fun W B=>zLy x.sl y.sl x.o y.o W (C.kept B) (A.kept B) s q
 have b:=hid (zRB (x:=x) (y:=y));obtain ⟨r,p⟩:=eE (decide (x.ver=y.ver));rw [p];have i:=hid p;have d:Hid (Bw w ((w.alloc (.cells (zF x).toArray 42)).alloc (.cells (zF y).toArray 42))):=(zaQ).alloc (by simp) _;obtain ⟨xn,xs,xt,xl,xp,xc,xo⟩:=x;obtain ⟨yn,ys,yt,yl,yp,yc,yo⟩:=y;simp only [zF,Vx.sl] at f d b ⊢;clear C A s q p;have z:¬ (xn=yn/\xs=ys/\xt=yt/\xl=yl/\xo.map Fx.fld=yo.map Fx.fld)->r=false:=fun h=>by rw [<-i.o];exact xar fun e=>h (b.o.1 e)
 have a:=hid z;clear z;show CC 28 #[.agg #[ii xn,iu xs,ii xt,.bool xl,sc xp xo.length xc],.agg #[ii yn,iu ys,ii yt,.bool yl,sc yp yo.length yc]] w _
 by_cases c:xn=yn
 ·by_cases g:xs=ys
  ·by_cases k:xt=yt
   ·by_cases l:xl=yl
    ·have u:Hid (r=decide (xo.map Fx.fld=yo.map Fx.fld)):=by
      show _=_
      rw [<-i.o,decide_eq_decide];rw [b.o];exact ⟨fun h=>h.2.2.2.2,fun h=>⟨c,g,k,l,h⟩⟩
     subst c g k l;have v:=hid (f.o _ d.o);clear a b i f;obtain ⟨Q,t⟩:=eE (decide (xo.map Fx.fld=yo.map Fx.fld));rw [t] at v u;clear t
     cases xl
     all_goals
      go_enter func28,ntmps28
      go_wp2_with fail
      refine v.o.mono ?_;rintro e E ⟨rfl,D,rfl⟩;go_wp2_with fail;go_ret;exact ⟨zH u.o.symm,zG d.o D⟩
    have j:=hid (a.out fun h=>l h.2.2.2.1);subst c g k;have h4':(xl==yl)=false:=by simpa using l
    clear a b i f l;go_enter func28,ntmps28;go_wp2_with fail;go_ret;exact ⟨zH j.o.symm,d.o⟩
   have j:=hid (a.out fun h=>k h.2.2.1);subst c g;have h3':(xt==yt)=false:=by simpa using k
   clear a b i f k;go_enter func28,ntmps28;go_wp2_with fail;go_ret;exact ⟨zH j.o.symm,d.o⟩
  have j:=hid (a.out fun h=>g h.2.1);subst c;have h2':(xs==ys)=false:=by simpa using g
  clear a b i f g;go_enter func28,ntmps28;go_wp2_with fail;go_ret;exact ⟨zH j.o.symm,d.o⟩
 have j:=hid (a.out fun h=>c h.1);have h1':(xn==yn)=false:=by simpa using c
 clear a b i f c;go_enter func28,ntmps28;go_wp2_with fail;go_ret;exact ⟨zH j.o.symm,d.o⟩
def zBK (w:World) (b a:Nat) (x:Vx):Prop:=w.cell? ⟨b,a,none⟩=some (.int .i64 x.num)/\w.cell? ⟨b,a+1,none⟩=some (.int .u64 x.stamp)/\w.cell? ⟨b,a+2,none⟩=some (.int .i64 x.tick)/\w.cell? ⟨b,a+3,none⟩=some (.bool x.live)/\w.cell? ⟨b,a+4,none⟩=some x.sl
theorem zF6 (n:Int) (w:World):CC 227 #[.int .u8 n] w fun e a=>e=.returned (.bool (idB n))/\a=w:=by
 go_enter func227,ntmps227
 go_wp2
 all_goals go_ret
 all_goals refine ⟨zH ?_,rfl⟩
 all_goals (rw [xaO];simp_all [idB,mK,zRf,nW,kB,vU];try omega)
theorem zEn (s:ByteArray) (w:World) (hs:s.size<=maxLen):CC 224 #[.string s,.func (.func 225) #[] #[],.func (.func 226) #[] #[]] w fun e w'=>e=.returned (.bool (zCv s.data.toList))/\w'=w:=by
 unfold maxLen at hs
 by_cases he:s.size=0
 ·have hb:=fA kB nW s he;have hlt:(s.size:Int)<1:=by omega
  have HB:Hid (wS kB nW s.L=false):=hb;go_enter func224,ntmps224;go_wp2_with fail;go_ret;exact ⟨zH HB.o.symm,rfl⟩
 have hpos:0<s.size:=by omega
 have hnl:¬ (s.size:Int)<1:=by omega
 by_cases hl:32<s.size
 ·have hb:=bO kB nW s hl;have HB:Hid (wS kB nW s.L=false):=hb;have hgt:(32:Int)<(s.size:Int):=by omega
  go_enter func224,ntmps224
  go_wp2_with fail
  go_ret;exact ⟨zH HB.o.symm,rfl⟩
 have hle:¬ (32:Int)<(s.size:Int):=by omega
 cases hc:kB (s[0].toNat:Int) with
 | false =>
  have HB:Hid (wS kB nW s.L=false):=gC kB nW s hpos hc;go_enter func224,ntmps224;go_wp2_with (go_at_call 225;refine (zKO _ _).mono ?_;rintro e w' ⟨rfl,rfl⟩);go_ret;exact ⟨zH HB.o.symm,rfl⟩
 | true =>
 have HT:Hid ((∀k,1<=k->(hk:k<s.size)->nW (s[k].toNat:Int)=true)->wS kB nW s.L=true):=bP kB nW s hpos (by omega) hc;have HA:Hid (∀k,1<=k->(hk:k<s.size)->nW (s[k].toNat:Int)=false->wS kB nW s.L=false):=fun k h1 hk=>zCJ kB nW s k h1 hk
 go_enter func224,ntmps224
 go_wp2_with (go_at_call 225;refine (zKO _ _).mono ?_;rintro e w' ⟨rfl,rfl⟩)
 go_loop [7] (fun i=>∃k:Nat,1<=k/\k<=s.size/\i=ii k/\(∀j,1<=j->j<k->(hj:j<s.size)->nW (s[j].toNat:Int)=true)) (fun i=>s.size-(intOf i).toNat)
 case atStart=>exact ⟨1,by omega,by omega,rfl,fun j h1 h2=>by omega⟩
 obtain ⟨k,hk1,hk,rfl,hall⟩:=hrel;have HL:Hid (∀j,1<=j->j<k->(hj:j<s.size)->nW (s[j].toNat:Int)=true):=hall
 by_cases hlt:k<s.size
 ·cases hd:nW (s[k].toNat:Int) with
  | false =>
   go_wp2_with (go_at_call 226;refine (zDE _ _).mono ?_;rintro e w' ⟨rfl,rfl⟩)
   go_ret;exact ⟨zH (HA.o k hk1 hlt hd).symm,rfl⟩
  | true =>
  go_wp2_with (go_at_call 226;refine (zDE _ _).mono ?_;rintro e w' ⟨rfl,rfl⟩)
  go_round
  case rel =>
   refine ⟨k+1,by omega,by omega,by go_num,fun j h1 h2 hj=>?_⟩
   by_cases hjk:j=k
   ·grind
   exact HL.o j h1 (by omega) hj
  case measure=>simp [intOf];omega
 go_wp2_with fail
 go_ret;exact ⟨zH (HT.o fun j h1 hj=>HL.o j h1 (by omega) hj).symm,rfl⟩
theorem zNw (s:ByteArray) (w:World) (hs:s.size<=maxLen):CC 174 #[.string s] w fun e a=>e=.returned (.bool (zCv s.data.toList))/\a=w:=by
 go_enter func174,ntmps174
 go_wp2_with (go_at_call 224;refine (zEn _ _ hs).mono ?_;rintro e a ⟨rfl,rfl⟩)
 go_ret;exact ⟨rfl,rfl⟩
theorem zEk (s:ByteArray) (w:World) (hs:s.size<=maxLen):CC 224 #[.string s,.func (.func 227) #[] #[],.func (.func 227) #[] #[]] w fun e w'=>e=.returned (.bool (zEZ s.data.toList))/\w'=w:=by
 unfold maxLen at hs
 by_cases he:s.size=0
 ·have hb:=fA idB idB s he;have hlt:(s.size:Int)<1:=by omega
  have HB:Hid (wS idB idB s.L=false):=hb;go_enter func224,ntmps224;go_wp2_with fail;go_ret;exact ⟨zH HB.o.symm,rfl⟩
 have hpos:0<s.size:=by omega
 have hnl:¬ (s.size:Int)<1:=by omega
 by_cases hl:32<s.size
 ·have hb:=bO idB idB s hl;have HB:Hid (wS idB idB s.L=false):=hb;have hgt:(32:Int)<(s.size:Int):=by omega
  go_enter func224,ntmps224
  go_wp2_with fail
  go_ret;exact ⟨zH HB.o.symm,rfl⟩
 have hle:¬ (32:Int)<(s.size:Int):=by omega
 cases hc:idB (s[0].toNat:Int) with
 | false =>
  have HB:Hid (wS idB idB s.L=false):=gC idB idB s hpos hc;go_enter func224,ntmps224;go_wp2_with (go_at_call 227;refine (zF6 _ _).mono ?_;rintro e w' ⟨rfl,rfl⟩);go_ret;exact ⟨zH HB.o.symm,rfl⟩
 | true =>
 have HT:Hid ((∀k,1<=k->(hk:k<s.size)->idB (s[k].toNat:Int)=true)->wS idB idB s.L=true):=bP idB idB s hpos (by omega) hc;have HA:Hid (∀k,1<=k->(hk:k<s.size)->idB (s[k].toNat:Int)=false->wS idB idB s.L=false):=fun k h1 hk=>zCJ idB idB s k h1 hk
 go_enter func224,ntmps224
 go_wp2_with (go_at_call 227;refine (zF6 _ _).mono ?_;rintro e w' ⟨rfl,rfl⟩)
 go_loop [7] (fun i=>∃k:Nat,1<=k/\k<=s.size/\i=ii k/\(∀j,1<=j->j<k->(hj:j<s.size)->idB (s[j].toNat:Int)=true)) (fun i=>s.size-(intOf i).toNat)
 case atStart=>exact ⟨1,by omega,by omega,rfl,fun j h1 h2=>by omega⟩
 obtain ⟨k,hk1,hk,rfl,hall⟩:=hrel;have HL:Hid (∀j,1<=j->j<k->(hj:j<s.size)->idB (s[j].toNat:Int)=true):=hall
 by_cases hlt:k<s.size
 ·cases hd:idB (s[k].toNat:Int) with
  | false =>
   go_wp2_with (go_at_call 227;refine (zF6 _ _).mono ?_;rintro e w' ⟨rfl,rfl⟩)
   go_ret;exact ⟨zH (HA.o k hk1 hlt hd).symm,rfl⟩
  | true =>
  go_wp2_with (go_at_call 227;refine (zF6 _ _).mono ?_;rintro e w' ⟨rfl,rfl⟩)
  go_round
  case rel =>
   refine ⟨k+1,by omega,by omega,by go_num,fun j h1 h2 hj=>?_⟩
   by_cases hjk:j=k
   ·grind
   exact HL.o j h1 (by omega) hj
  case measure=>simp [intOf];omega
 go_wp2_with fail
 go_ret;exact ⟨zH (HT.o fun j h1 hj=>HL.o j h1 (by omega) hj).symm,rfl⟩
theorem zNa (s:ByteArray) (w:World) (hs:s.size<=maxLen):CC 175 #[.string s] w fun e a=>e=.returned (.bool (zEZ s.data.toList))/\a=w:=by
 go_enter func175,ntmps175
 go_wp2_with (go_at_call 224;refine (zEk _ _ hs).mono ?_;rintro e a ⟨rfl,rfl⟩)
 go_ret;exact ⟨rfl,rfl⟩
theorem zH8 (l:List UInt8) (c:UInt8):(Lib.indexByte l c=-1/\c ∉ l)∨∃i:Nat,Lib.indexByte l c=(i:Int)/\i<l.length/\l[i]? = some c/\c ∉ l.take i:=by
 induction l with
 | nil=>left;exact ⟨rfl,by simp⟩
 | cons b l ih =>
 by_cases hb:b=c
 ·grind [Lib.indexByte]
 have e:(b==c)=false:=by simp [hb]
 rcases ih with ⟨a,d⟩|⟨i,a,d,f,g⟩
 ·grind [Lib.indexByte]
 right;refine ⟨i+1,?_,by simp;omega,by grind,?_⟩
 ·grind [Lib.indexByte]
 grind
theorem zQC (s:ByteArray) (c:UInt8) (w:World) (d:Lib.indexByte s.data.toList c=-1):CC 309 #[.string s,.string ⟨#[c]⟩] w fun e a=>e=.returned (.tuple #[.string s,.string ⟨#[]⟩,.bool false])/\a=w:=by
 have b:Hid (Lib.indexByte s.L c=-1):=d;go_enter func309,ntmps309;go_wp2_with (go_at_call 310;refine (Tryz.stringslite_Index_one _ _ _).mono ?_;rintro e a ⟨rfl,rfl⟩;rw [b.o])
 go_ret3
 exact ⟨rfl,rfl⟩
theorem zNz (s:ByteArray) (c:UInt8) (w:World) (i:Nat) (d:Lib.indexByte s.data.toList c=(i:Int)) (hi:i<s.size) (hs:s.size<=maxLen):CC 309 #[.string s,.string ⟨#[c]⟩] w fun e a=>e=.returned (.tuple #[.string (s.extract 0 i),.string (s.extract (i+1) s.size),.bool true])/\∃n,a=w.drewN n:=by
 have b:Hid (Lib.indexByte s.L c=(i:Int)):=d;unfold maxLen at hs;have g:(0:Int)<=↑i:=by omega
 have j:(↑i:Int)<=↑s.size:=by omega
 have f:(0:Int)<=↑i+1:=by omega
 have h:(↑i+1:Int)<=↑s.size:=by omega
 go_enter func309,ntmps309
 go_wp2_with (go_at_call 310;refine (Tryz.stringslite_Index_one _ _ _).mono ?_;rintro e a ⟨rfl,rfl⟩;rw [b.o])
 go_quiet (fail)
 go_wp2_with fail
 go_ret3
 exact ⟨rfl,_,rfl⟩
theorem zR1 (s:ByteArray) (c:UInt8) (w:World) (d:Lib.indexByte s.data.toList c=-1):CC 302 #[.string s,.string ⟨#[c]⟩] w fun e a=>e=.returned (.tuple #[.string s,.string ⟨#[]⟩,.bool false])/\a=w:=by
 have b:Hid (Lib.indexByte s.L c=-1):=d;go_enter func302,ntmps302;go_wp2_with (go_at_call 309;refine (zQC _ _ _ b.o).mono ?_;rintro e a ⟨rfl,rfl⟩)
 go_ret3
 exact ⟨rfl,rfl⟩
theorem zQX (s:ByteArray) (c:UInt8) (w:World) (i:Nat) (d:Lib.indexByte s.data.toList c=(i:Int)) (hi:i<s.size) (hs:s.size<=maxLen):CC 302 #[.string s,.string ⟨#[c]⟩] w fun e a=>e=.returned (.tuple #[.string (s.extract 0 i),.string (s.extract (i+1) s.size),.bool true])/\∃n,a=w.drewN n:=by
 have b:Hid (Lib.indexByte s.L c=(i:Int)):=d;go_enter func302,ntmps302;go_wp2_with (go_at_call 309;refine (zNz _ _ _ i b.o hi hs).mono ?_;rintro e a ⟨rfl,n,rfl⟩)
 go_ret3
 exact ⟨rfl,n,rfl⟩
section
variable {l:List UInt8}
def xN (a b:ByteArray):Bool:=zCv a.data.toList&&zEZ b.data.toList
theorem zBp (a b:ByteArray) (w:World) (ha:a.size<=maxLen) (hb:b.size<=maxLen):CC 122 #[.agg #[.string a,.string b]] w fun e w'=>e=.returned (.bool (xN a b))/\Below w.heap.size w w':=by
 have HK:Hid (xN a b=(zCv a.L&&zEZ b.L)):=rfl
 cases ht:zCv a.L
 all_goals
  go_enter func122,ntmps122
  go_wp2_with (first|(go_at_call 174;refine (zNw _ _ ha).mono ?_;rintro e w' ⟨rfl,rfl⟩)|(go_at_call 175;refine (zNa _ _ hb).mono ?_;rintro e w' ⟨rfl,rfl⟩))
  go_ret;exact ⟨zH (by rw [HK.o,ht];rfl),zaQ⟩
theorem zE0 (h:zCv l=true):l.length<=32:=by
 cases l with
 | nil=>simp
 | cons c r=>grind [zCv,wS]
theorem zE3 (h:zEZ l=true):l.length<=32:=by
 cases l with
 | nil=>simp
 | cons c r=>grind [zEZ,wS]
end
namespace Z
def orI (x y:Int):Int:=if x=0 then y else x
theorem zor_any (x y:Int) (b:Nat) (w:World) (g:w.cell? ⟨b,0,none⟩=some (.int .i64 x)) (f:w.cell? ⟨b,1,none⟩=some (.int .i64 y)):CC 157 #[.slice (some ⟨b,0,none⟩) 2 2] w fun e c=>e=.returned (.int .i64 (orI x y))/\c=w:=by
 by_cases hx:x=0
 ·have a:Hid (orI x y=y):=xae hx;subst hx
  by_cases hy:y=0
  ·subst hy;go_enter func157,ntmps157;go_wp2;refine xaD 3 ?_;rw [xav];go_wp2;rw [xav];go_wp2;rw [xav];go_wp2;go_ret;exact ⟨sK a.o.symm,rfl⟩
  have d:(y != 0)=true:=by simp [hy]
  go_enter func157,ntmps157
  go_wp2
  refine xaD 3 ?_;rw [xav];go_wp2;rw [xav];go_wp2;go_ret;exact ⟨sK a.o.symm,rfl⟩
 have a:Hid (orI x y=x):=xag hx;have h:(x != 0)=true:=by simp [hx]
 go_enter func157,ntmps157
 go_wp2
 refine xaD 3 ?_;rw [xav];go_wp2;go_ret;exact ⟨sK a.o.symm,rfl⟩
attribute [local go_sem] Go.wp_at_zero Go.wp_at_succ
def cmpI (a b c d:ByteArray):Int:=orI (Lib.compareBytes a.data.toList c.data.toList) (Lib.compareBytes b.data.toList d.data.toList)
theorem compare_eq (a b c d:ByteArray) (w:World):CC 104 #[.agg #[.string a,.string b],.agg #[.string c,.string d]] w fun e w'=>e=.returned (.int .i64 (cmpI a b c d)) /\
   w'=(((w.alloc (.cells #[.string a,.string b] 36)).alloc (.cells #[.string c,.string d] 36)).alloc (.cells #[.int .i64 (Lib.compareBytes a.data.toList c.data.toList),.int .i64 (Lib.compareBytes b.data.toList d.data.toList)] 3)).drew:=by
 have HO:Hid (cmpI a b c d=orI (Lib.compareBytes a.L c.L) (Lib.compareBytes b.L d.L)):=rfl;go_enter func104,ntmps104;go_wp2_with fail
 go_region_held3 (fun w'=>w'.cell? (aa w.z 0)=some (tq a)/\w'.cell? (aa w.z 1)=some (tq b)/\w'.cell? (aa (w.z+1) 0)=some (tq c)/\w'.cell? (aa (w.z+1) 1)=some (tq d)) (go_keep) (first|(go_at_call 158;refine (Tryz.strings_Compare _ _ _).mono ?_;rintro e w' ⟨rfl,rfl⟩)|(go_at_call 157;refine (zor_any (Lib.compareBytes a.L c.L) (Lib.compareBytes b.L d.L) _ _ ?_ ?_).mono ?_;(simp [go_sem]);(simp [go_sem]);rintro e w' ⟨rfl,rfl⟩))
 all_goals
  go_wp2
  go_ret;exact ⟨sK HO.o.symm,rfl⟩
end Z
namespace Z
def eqK (a b c d:ByteArray):Bool:=a.toList==c.toList&&b.toList==d.toList
theorem eql_key (a b c d:ByteArray) (w:World):(binOp .eql 36 (.agg #[.string a,.string b]) (.agg #[.string c,.string d])).run prog w=.ok (.bool (eqK a b c d)) w:=by
 have i:=underlying9;have h:=isAgg9;have g:=sizeOf9;have f:prog.underlying 36=some (.struct (prog.fieldsOf 36)):=by kernel_rfl
 have e:prog.stoodInHeld 36=false:=by kernel_rfl
 rw [run_eql_struct,show (10000:Nat)=9999+1 from rfl,run_equalIn_agg w 9999 36 _ _ f e];simp only [Program.fieldsOf,underlying36]
 go_simp
 grind [eqK]
theorem zPd (a b c d:ByteArray) (w:World):(binOp .neq 36 (.agg #[.string a,.string b]) (.agg #[.string c,.string d])).run prog w=.ok (.bool (!eqK a b c d)) w:=by
 have i:=underlying9;have h:=isAgg9;have g:=sizeOf9;have f:prog.underlying 36=some (.struct (prog.fieldsOf 36)):=by kernel_rfl
 have e:prog.stoodInHeld 36=false:=by kernel_rfl
 rw [run_neq_struct,show (10000:Nat)=9999+1 from rfl,run_equalIn_agg w 9999 36 _ _ f e];simp only [Program.fieldsOf,underlying36]
 go_simp
 grind [eqK]
end Z
namespace Z
theorem zero_cells (e:Value) (n:Nat):(Builtin.zeroCells #[e,e] n).toList=List.replicate (n * 2) e:=by apply List.ext_getElem<;>grind [Builtin.zeroCells]
theorem zDm (w:World) (e:TypeId) (b o n c:Nat) (g:0<n)
  (hc:∀j,j<n * 2->(w.cell? ⟨b,o+j,none⟩).isSome=true) (hf:∀j,j<n * 2->w.frozen? ⟨b,o+j,none⟩=false):(Builtin.clear_ #[46] e #[.slice (some ⟨b,o,none⟩) n c]).run prog w=.ok (.tuple #[]) (w.setCells b o (List.replicate (n * 2) (.string ⟨#[]⟩))):=by
 have d:=xb1 (P:=prog) b o (List.replicate (n * 2) (tq ⟨#[]⟩)) 0 w (by grind) (by grind) (by intro v a;rw [List.eq_of_mem_replicate a];rfl);simp only [Nat.add_zero] at d;have f:=zero_cells (tq ⟨#[]⟩) n;obtain ⟨m,rfl⟩:∃m,n=m+1:=⟨n-1,by omega⟩
 simp_all [Builtin.clear_,Value.cells]
theorem gN {B:Nat} {w w':World} (b:Nat) (hb:B<=b):∀(vs:List Value) (o:Nat),Below B w w'->Below B w (w'.setCells b o vs)
 | [],_,h=>h
 | v::vs,o,h=>by
  unfold World.setCells;exact gN (w':=w'.setCell ⟨b,o,none⟩ v) b hb vs (o+1) (h.setCell hb v)
theorem zHF (a b:ByteArray):eqK a b a b=true:=by simp [eqK]
end Z
namespace Z
theorem jH (a:List UInt8):Lib.compareBytes a a=0:=by
 induction a with
 | nil=>rfl
 | cons x a ih=>grind [Lib.compareBytes]
theorem mZ (a b:List UInt8):Lib.compareBytes a b=0↔a=b:=by
 constructor
 ·induction a generalizing b with
  | nil=>cases b with
   | nil=>intro _;rfl
   | cons y b=>grind [Lib.compareBytes]
  | cons x a ih=>cases b with
   | nil=>grind [Lib.compareBytes]
   | cons y b=>grind [Lib.compareBytes]
 grind [jH]
theorem zC6 (a b:List UInt8):Lib.compareBytes b a=- Lib.compareBytes a b:=by
 induction a generalizing b with
 | nil=>cases b<;>simp [Lib.compareBytes]
 | cons x a ih=>cases b with
  | nil=>simp [Lib.compareBytes]
  | cons y b=>grind [Lib.compareBytes]
theorem zHI (a b:List UInt8):Lib.compareBytes a b=-1∨Lib.compareBytes a b=0∨Lib.compareBytes a b=1:=by
 induction a generalizing b with
 | nil=>cases b<;>simp [Lib.compareBytes]
 | cons x a ih=>cases b with
  | nil=>simp [Lib.compareBytes]
  | cons y b=>grind [Lib.compareBytes]
theorem qN (a b c:List UInt8) (e:Lib.compareBytes a b<0) (d:Lib.compareBytes b c<0):Lib.compareBytes a c<0:=by
 induction a generalizing b c with
 | nil=>cases c with
  | nil=>cases b<;>simp [Lib.compareBytes] at e d
  | cons z c=>simp [Lib.compareBytes]
 | cons x a ih=>cases b with
  | nil=>simp [Lib.compareBytes] at e
  | cons y b=>cases c with
   | nil=>simp [Lib.compareBytes] at d
   | cons z c=>grind [Lib.compareBytes]
theorem zKI (a b:List UInt8):decide (Lib.compareBytes a b<0)=Op.bytesLess a b:=by
 induction a generalizing b with
 | nil=>cases b<;>simp [Lib.compareBytes,Op.bytesLess]
 | cons x a ih=>cases b with
  | nil=>simp [Lib.compareBytes,Op.bytesLess]
  | cons y b=>grind [Lib.compareBytes,Op.bytesLess]
def qQ (x y:Int):Int:=if x=0 then y else x
def mO (a b c d:List UInt8):Int:=qQ (Lib.compareBytes a c) (Lib.compareBytes b d)
theorem pT (a b c d:List UInt8):(a=c/\mO a b c d=Lib.compareBytes b d)∨(a≠c/\Lib.compareBytes a c≠0/\mO a b c d=Lib.compareBytes a c):=by
 unfold mO qQ
 by_cases h:Lib.compareBytes a c=0
 ·simp_all [mZ]
 simp_all [mZ]
theorem zGP (a b c d:List UInt8):mO c d a b=- mO a b c d:=by
 unfold mO qQ;rw [zC6 a c,zC6 b d];omega
theorem zI5 (a b c d:List UInt8):mO a b c d=-1∨mO a b c d=0∨mO a b c d=1:=by
 rcases pT a b c d with ⟨_,h⟩|⟨_,_,h⟩<;>rw [h]<;>exact zHI _ _
theorem dF (a b c d:List UInt8):mO a b c d=0↔a=c/\b=d:=by grind [pT,mZ]
theorem cI (a b c d e f:List UInt8) (g:mO a b c d<0) (h:mO c d e f<0):mO a b e f<0:=by
 rcases pT a b c d with ⟨i,p⟩|⟨i,_,p⟩<;>rcases pT c d e f with ⟨q1,q⟩|⟨q1,_,q⟩<;>rcases pT a b e f with ⟨r1,r⟩|⟨r1,_,r⟩<;>rw [p] at g<;>rw [q] at h<;>rw [r]
 ·exact qN _ _ _ g h
 ·grind
 ·grind
 ·grind
 ·grind
 ·grind
 ·grind [qN,jH]
 exact qN _ _ _ g h
theorem zD1 (a b c d e f:List UInt8) (h:mO a b c d<=0) (g:mO c d e f<=0):mO a b e f<=0:=by
 by_cases p:mO a b c d=0
 ·grind [dF]
 by_cases q:mO c d e f=0
 ·grind [dF]
 have:=cI a b c d e f (by omega) (by omega);omega
end Z
namespace Z
open Go.RowKit Go.Sort Go.Lib
section
variable {w:World}
def encKey (x:ByteArray × ByteArray):List Value:=[.string x.1,.string x.2]
def cmpK (x y:ByteArray × ByteArray):Int:=cmpI x.1 x.2 y.1 y.2
theorem ltK (x y:ByteArray × ByteArray):ltOf cmpK x y=decide (mO x.1.data.toList x.2.data.toList y.1.data.toList y.2.data.toList<0):=rfl
theorem swoK:SWO (ltOf cmpK) where
 irrefl x:=by grind [ltK,dF]
 trans x y z h1 h2:=by
  rw [ltK,xaQ] at *;exact cI _ _ _ _ _ _ h1 h2
 ntrans x y z h1 h2:=by grind [ltK,zGP,zD1]
theorem zMM (W:World) (a b c:Obj):(((W.alloc a).alloc b).alloc c).drew=grow (W.drewN 1) #[a,b,c]:=by
 rw [alloc_eq_grow,alloc_eq_grow,alloc_eq_grow,grow_grow,grow_grow];rfl
theorem zO1 (a c b:Nat) (w:World):CmpLays prog 104 #[] encKey 2 cmpK a c b w:=fun _ _ _ _ x y=>(compare_eq x.1 x.2 y.1 y.2 _).mono fun _ _ ⟨h1,h2⟩=>⟨h1,1,_,h2.trans (zMM _ _ _ _)⟩
theorem zOB:∀args w,(callFunc 104 args).run prog w=.ok (.enter 104 args) w:=xaR func104 (by kernel_rfl) rfl
theorem zsortfunc_any (a b f:Nat) (d:Array (ByteArray × ByteArray)) (w:World) (i:HoldsK encKey 2 w a b d) (h:a<w.heap.size) (g:d.size<4611686018427387904):CC 155 #[.slice (some ⟨a,b,none⟩) d.size f,.func (.func 104) #[] #[]] w fun e j =>
   e=.returned (.tuple #[])/\∃d' n os,PermIn 0 d.size d d'/\SortedIn (ltOf cmpK) 0 d.size d'/\j=sortWorldK encKey 2 w a b n d' os:=AnyQ.slices_SortFunc Tryz.sortKey 2 isAgg36 sizeOf36 encKey (fun _=>rfl) (fun x v c=>by simp [encKey] at c;rcases c with rfl|rfl<;>rfl) cmpK swoK 104 #[] a b f d w zOB (zO1 a b d.size w) i h g
theorem zIS (b f n c:Nat) (d:List Value) (w:World) (l:d.length=n * 2) (o:n<=maxLen) (m:n * 32<=140737488355328)
  (hc:∀j u,d[j]? = some u->w.cell? ⟨b,f+j,none⟩=some u) (h1:∀u∈d,u.oneCell'=true):CC 190 #[.slice (some ⟨b,f,none⟩) n c] w fun e h=>∃v',e=.returned v'/\h.ownsRow w.heap.size 36 2 v' n d/\v'≠.slice none 0 0/\Below w.heap.size w h:=by
 have g:(prog.info? 36).isSome=true:=by kernel_rfl
 have hi:∃a,prog.info? 36=some a/\a.zero=some (.agg #[tq ⟨#[]⟩,tq ⟨#[]⟩])/\a.size=2/\a.bytes=32 :=
  ⟨(prog.info? 36).get g,(Option.some_get g).symm,by kernel_rfl,by kernel_rfl,by kernel_rfl⟩
 obtain ⟨a,k,q,i,p⟩:=hi;exact AnyE.slices_Clone Tryz.cloneKey a _ 2 32 k q i p rfl (by omega) sizeOf36 b f n c d w l o m hc h1
def zNt (d:Array (ByteArray × ByteArray)):List Value:=d.toList.flatMap encKey
theorem jU {B:Nat} {b:World} (h:Below B b w) (e:B<=w.heap.size) (a c n:Nat) (d:Array (ByteArray × ByteArray)) (os:Array Obj) (f:B<=a):Below B b (sortWorldK encKey 2 w a c n d os):=by
 refine h.trans ⟨rfl,rfl,rfl,?_,?_⟩
 ·simp [sortWorldK,putRowK]
 grind [sortWorldK,grow,putRowK,putRow,mapBlock,Sort.ahead]
theorem zA6 (l:List (ByteArray × ByteArray)) (t:Nat) (h:t<l.length * 2):(l.flatMap encKey)[t]? = some (encKey (l[t / 2]!))[t % 2]!:=by
 induction l generalizing t with
 | nil=>simp at h
 | cons x l ih =>
 rw [List.flatMap_cons]
 by_cases h2:t<2
 ·rcases (show t=0∨t=1 by omega) with rfl|rfl<;>simp [encKey]
 obtain ⟨u,rfl⟩:∃u,t=u+2:=⟨t-2,by omega⟩;have a:(encKey x).length=2:=rfl
 grind
theorem cJ {g:Nat} {a:Array Value} {e:TypeId} (d:Array (ByteArray × ByteArray)) (h:w.heap[g]? = some (.cells a e (0,0))) (f:a.toList.take (d.size * 2)=zNt d):HoldsK encKey 2 w g 0 d:=by
 intro j hj;rw [size_flatK] at hj;have b:=zA6 d.toList j (by omega);have c:(a.toList.take (d.size * 2))[j]? = some (encKey (d.toList[j / 2]!))[j % 2]!:=by rw [f];exact b
 rw [xa9 hj] at c;rw [get_flatK _ _ _ _ hj]
 grind [World.cell?,World.frozen?]
end
end Z
namespace Z
def uB (d:List (ByteArray × ByteArray)):List Value:=d.flatMap encKey
theorem tQ (x:ByteArray × ByteArray) (d:List (ByteArray × ByteArray)):uB (x::d)=.string x.1::.string x.2::uB d:=rfl
theorem uW (d:List (ByteArray × ByteArray)):(uB d).length=d.length * 2:=by
 induction d with
 | nil=>rfl
 | cons x d ih=>grind [tQ]
theorem zHv (d:List (ByteArray × ByteArray)):∀u∈uB d,u.oneCell'=true:=by
 intro u b;obtain ⟨x,_,a⟩:=List.mem_flatMap.1 b;simp [encKey] at a
 rcases a with rfl|rfl<;>rfl
theorem zCh (d:List (ByteArray × ByteArray)) (i:Nat) (h:i<d.length):(uB d)[i * 2]? = some (.string d[i].1)/\(uB d)[i * 2+1]? = some (.string d[i].2):=by
 induction d generalizing i with
 | nil=>simp at h
 | cons x d ih=>grind [tQ]
theorem zIh (d:List (ByteArray × ByteArray)) (i:Nat) (a b:ByteArray) (h:i<d.length):((uB d).set (i * 2) (.string a)).set (i * 2+1) (.string b)=uB (d.set i (a,b)):=by
 induction d generalizing i with
 | nil=>simp at h
 | cons x d ih =>
 rw [tQ]
 cases i with
 | zero=>simp [tQ]
 | succ i=>grind [tQ]
theorem zGD (d:List (ByteArray × ByteArray)) (k:Nat):(uB d).take (k * 2)=uB (d.take k):=by
 induction d generalizing k with
 | nil=>simp [uB]
 | cons x d ih =>
 cases k with
 | zero=>simp [uB]
 | succ k=>grind [tQ]
def KeysAt (w:World) (b off:Nat) (d:List (ByteArray × ByteArray)):Prop:=∀i,(h:i<d.length)->w.cell? ⟨b,off+i * 2,none⟩=some (.string d[i].1)/\w.cell? ⟨b,off+i * 2+1,none⟩=some (.string d[i].2)
def Own (w:World) (base:Nat) (v:Value) (d:List (ByteArray × ByteArray)):Prop:=w.ownsRow base 36 2 v d.length (uB d)
theorem Own.keysAt {w:World} {c g n f:Nat} {d:List (ByteArray × ByteArray)} (h:Own w c (.slice (some ⟨g,0,none⟩) n f) d):n=d.length/\KeysAt w g 0 d:=by
 have b:n=d.length:=by
  rcases h.2 with ⟨a,_⟩|⟨_,_,_,a,_⟩
  ·simp at a
  grind
 subst b;refine ⟨rfl,fun i hi=>?_⟩;have e:=zCh d i hi;rw [xaJ,World.ownsRow.cellAt h (i * 2) (by omega),World.ownsRow.cellAt h (i * 2+1) (by omega)];exact e
end Z
namespace Z
theorem eqK_iff (x y:ByteArray × ByteArray):eqK x.1 x.2 y.1 y.2=decide (x=y):=by
 unfold eqK;rw [xbt,xbt,xbt,xbt,xaO,xaQ];obtain ⟨⟨⟨a⟩⟩,⟨⟨b⟩⟩⟩:=x;obtain ⟨⟨⟨c⟩⟩,⟨⟨d⟩⟩⟩:=y;simp
end Z
section
variable {i fuel:Nat} {rest:List Oper} {a:Act} {w:World}
theorem zB {ops:Array Oper} {b:Oper} (h:ops.toList.drop i=b::rest):ops[i]? = some b:=by grind [List.head?_drop]
section
variable {P:Program} {ops:Array Oper} {Q:Exit→Act→World→Prop} {md:Region.Mode} {S:World→Prop}
theorem zNW {d:Array Bool} (v:Value) {b:Oper} {rest:List Oper} (e:ops.toList.drop i=b::rest)
  (hs:Region.noSelect ops=true) (hf:Region.free md ops d i=true) (hr:(Region.ready md ops d).contains i=true)
  (hQ:∀c a w,Q (.panic c) (a.put b.dst v) w->Q (.panic c) a w) (hw:Region.wanted b (yielded ops a.tmps)=true) (hy:∀w,S w->(execOp a.eval b).run P w=.ok (.value v) w) (hS:S w)
  (h:wpAnyH P md ops Q S fuel (d.setIfInBounds i true) (a.put b.dst v) w):wpAnyH P md ops Q S (fuel+1) d a w:=wpAnyH_take (zB e) hs hf hr hQ (xac ⟨hw,hy⟩) hS h
theorem yS {d:Array Bool} {b:Oper} (e:ops.toList.drop i=b::rest)
  (hs:Region.noSelect ops=true) (hf:Region.free md ops d i=true) (hr:(Region.ready md ops d).contains i=true)
  (hQ:∀c a w,Q (.panic c) (a.put b.dst undef) w->Q (.panic c) a w) (hw:Region.wanted b (yielded ops a.tmps)=false) (hS:S w)
  (h:wpAnyH P md ops Q S fuel (d.setIfInBounds i true) (a.put b.dst undef) w):wpAnyH P md ops Q S (fuel+1) d a w:=wpAnyH_take (zB e) hs hf hr hQ (xaf ⟨hw,rfl⟩) hS h
end
end
section
variable {P:Program} {ops:Array Oper} {Q:Exit→Act→World→Prop} {md:Region.Mode} {S:World→Prop}
theorem tkv (i:Nat) {fuel:Nat} {listed:Array Bool} {a:Act} {w:World} (v:Value) {oi:Oper} {rest:List Oper} (hS:S w)
  (h:wpAnyH P md ops Q S fuel (listed.setIfInBounds i true) (a.put oi.dst v) w) (hd:ops.toList.drop i=oi::rest:=by rfl)
  (hs:Region.noSelect ops=true:=by kernel_rfl) (hf:Region.free md ops listed i=true:=by kernel_rfl) (hr:(Region.ready md ops listed).contains i=true:=by kernel_rfl)
  (hQ:∀c a w,Q (.panic c) (a.put oi.dst v) w→Q (.panic c) a w:=by exact fun _ _ _ h=>h) (hw:Region.wanted oi (yielded ops a.tmps)=true:=by rfl)
  (hy:∀w,S w→(execOp a.eval oi).run P w=.ok (.value v) w:=by exact fun w hSw=>by go_simp):wpAnyH P md ops Q S (fuel+1) listed a w :=
 wpAnyH_take (zB hd) hs hf hr hQ (Or.inl ⟨hw,hy⟩) hS h
theorem tkv2 (i j:Nat) {fuel:Nat} {listed:Array Bool} {a:Act} {w:World} (v u:Value) {oi oj:Oper} {r s:List Oper} (hS:S w)
  (h:wpAnyH P md ops Q S fuel ((listed.setIfInBounds i true).setIfInBounds j true) ((a.put oi.dst v).put oj.dst u) w) (hd:ops.toList.drop i=oi::r:=by rfl) (he:ops.toList.drop j=oj::s:=by rfl)
  (hs:Region.noSelect ops=true:=by kernel_rfl) (hf:Region.free md ops listed i=true∧Region.free md ops (listed.setIfInBounds i true) j=true:=by exact ⟨by kernel_rfl,by kernel_rfl⟩) (hr:(Region.ready md ops listed).contains i=true∧(Region.ready md ops (listed.setIfInBounds i true)).contains j=true:=by exact ⟨by kernel_rfl,by kernel_rfl⟩)
  (hQ:(∀c a w,Q (.panic c) (a.put oi.dst v) w→Q (.panic c) a w)∧(∀c a w,Q (.panic c) (a.put oj.dst u) w→Q (.panic c) a w):=by exact ⟨fun _ _ _ h=>h,fun _ _ _ h=>h⟩) (hw:Region.wanted oi (yielded ops a.tmps)=true∧Region.wanted oj (yielded ops (a.put oi.dst v).tmps)=true:=by exact ⟨rfl,rfl⟩)
  (hy:∀w,S w→(execOp a.eval oi).run P w=.ok (.value v) w:=by exact fun w hSw=>by go_simp) (hz:∀w,S w→(execOp (a.put oi.dst v).eval oj).run P w=.ok (.value u) w:=by exact fun w hSw=>by simp only [Act.put,sz];go_simp):wpAnyH P md ops Q S (fuel+2) listed a w :=
 tkv i v hS (tkv j u hS h he hs hf.2 hr.2 hQ.2 hw.2 hz) hd hs hf.1 hr.1 hQ.1 hw.1 hy
theorem tkv3 (i j k:Nat) {fuel:Nat} {listed:Array Bool} {a:Act} {w:World} (v u t:Value) {oi oj ok:Oper} {r s q:List Oper} (hS:S w)
  (h:wpAnyH P md ops Q S fuel (((listed.setIfInBounds i true).setIfInBounds j true).setIfInBounds k true) (((a.put oi.dst v).put oj.dst u).put ok.dst t) w) (hd:ops.toList.drop i=oi::r:=by rfl) (he:ops.toList.drop j=oj::s:=by rfl) (hk:ops.toList.drop k=ok::q:=by rfl)
  (hs:Region.noSelect ops=true:=by kernel_rfl) (hf:Region.free md ops listed i=true∧Region.free md ops (listed.setIfInBounds i true) j=true∧Region.free md ops ((listed.setIfInBounds i true).setIfInBounds j true) k=true:=by exact ⟨by kernel_rfl,by kernel_rfl,by kernel_rfl⟩)
  (hr:(Region.ready md ops listed).contains i=true∧(Region.ready md ops (listed.setIfInBounds i true)).contains j=true∧(Region.ready md ops ((listed.setIfInBounds i true).setIfInBounds j true)).contains k=true:=by exact ⟨by kernel_rfl,by kernel_rfl,by kernel_rfl⟩)
  (hQ:(∀c a w,Q (.panic c) (a.put oi.dst v) w→Q (.panic c) a w)∧(∀c a w,Q (.panic c) (a.put oj.dst u) w→Q (.panic c) a w)∧(∀c a w,Q (.panic c) (a.put ok.dst t) w→Q (.panic c) a w):=by exact ⟨fun _ _ _ h=>h,fun _ _ _ h=>h,fun _ _ _ h=>h⟩) (hw:Region.wanted oi (yielded ops a.tmps)=true∧Region.wanted oj (yielded ops (a.put oi.dst v).tmps)=true∧Region.wanted ok (yielded ops ((a.put oi.dst v).put oj.dst u).tmps)=true:=by exact ⟨rfl,rfl,rfl⟩)
  (hy:∀w,S w→(execOp a.eval oi).run P w=.ok (.value v) w:=by exact fun w hSw=>by go_simp) (hz:∀w,S w→(execOp (a.put oi.dst v).eval oj).run P w=.ok (.value u) w:=by exact fun w hSw=>by simp only [Act.put,sz];go_simp)
  (hx:∀w,S w→(execOp ((a.put oi.dst v).put oj.dst u).eval ok).run P w=.ok (.value t) w:=by exact fun w hSw=>by simp only [Act.put,sz];go_simp):wpAnyH P md ops Q S (fuel+3) listed a w :=
 tkv i v hS (tkv2 j k u t hS h he hk hs hf.2 hr.2 hQ.2 hw.2 hz hx) hd hs hf.1 hr.1 hQ.1 hw.1 hy
theorem tkv4 (i j k l:Nat) {fuel:Nat} {listed:Array Bool} {a:Act} {w:World} (v u t p:Value) {oi oj ok ol:Oper} {r s q z:List Oper} (hS:S w)
  (h:wpAnyH P md ops Q S fuel ((((listed.setIfInBounds i true).setIfInBounds j true).setIfInBounds k true).setIfInBounds l true) ((((a.put oi.dst v).put oj.dst u).put ok.dst t).put ol.dst p) w) (hd:ops.toList.drop i=oi::r:=by rfl) (he:ops.toList.drop j=oj::s:=by rfl) (hk:ops.toList.drop k=ok::q:=by rfl) (hl:ops.toList.drop l=ol::z:=by rfl)
  (hs:Region.noSelect ops=true:=by kernel_rfl) (hf:Region.free md ops listed i=true∧Region.free md ops (listed.setIfInBounds i true) j=true∧Region.free md ops ((listed.setIfInBounds i true).setIfInBounds j true) k=true∧Region.free md ops (((listed.setIfInBounds i true).setIfInBounds j true).setIfInBounds k true) l=true:=by exact ⟨by kernel_rfl,by kernel_rfl,by kernel_rfl,by kernel_rfl⟩)
  (hr:(Region.ready md ops listed).contains i=true∧(Region.ready md ops (listed.setIfInBounds i true)).contains j=true∧(Region.ready md ops ((listed.setIfInBounds i true).setIfInBounds j true)).contains k=true∧(Region.ready md ops (((listed.setIfInBounds i true).setIfInBounds j true).setIfInBounds k true)).contains l=true:=by exact ⟨by kernel_rfl,by kernel_rfl,by kernel_rfl,by kernel_rfl⟩)
  (hQ:(∀c a w,Q (.panic c) (a.put oi.dst v) w→Q (.panic c) a w)∧(∀c a w,Q (.panic c) (a.put oj.dst u) w→Q (.panic c) a w)∧(∀c a w,Q (.panic c) (a.put ok.dst t) w→Q (.panic c) a w)∧(∀c a w,Q (.panic c) (a.put ol.dst p) w→Q (.panic c) a w):=by exact ⟨fun _ _ _ h=>h,fun _ _ _ h=>h,fun _ _ _ h=>h,fun _ _ _ h=>h⟩) (hw:Region.wanted oi (yielded ops a.tmps)=true∧Region.wanted oj (yielded ops (a.put oi.dst v).tmps)=true∧Region.wanted ok (yielded ops ((a.put oi.dst v).put oj.dst u).tmps)=true∧Region.wanted ol (yielded ops (((a.put oi.dst v).put oj.dst u).put ok.dst t).tmps)=true:=by exact ⟨rfl,rfl,rfl,rfl⟩)
  (hy:∀w,S w→(execOp a.eval oi).run P w=.ok (.value v) w:=by exact fun w hSw=>by go_simp) (hz:∀w,S w→(execOp (a.put oi.dst v).eval oj).run P w=.ok (.value u) w:=by exact fun w hSw=>by simp only [Act.put,sz];go_simp)
  (hx:∀w,S w→(execOp ((a.put oi.dst v).put oj.dst u).eval ok).run P w=.ok (.value t) w:=by exact fun w hSw=>by simp only [Act.put,sz];go_simp) (ht:∀w,S w→(execOp (((a.put oi.dst v).put oj.dst u).put ok.dst t).eval ol).run P w=.ok (.value p) w:=by exact fun w hSw=>by simp only [Act.put,sz];go_simp):wpAnyH P md ops Q S (fuel+4) listed a w :=
 tkv i v hS (tkv3 j k l u t p hS h he hk hl hs hf.2 hr.2 hQ.2 hw.2 hz hx ht) hd hs hf.1 hr.1 hQ.1 hw.1 hy
theorem tkc (n:Nat) {fuel:Nat} {listed:Array Bool} {a:Act} {w:World} {o:Oper} {r:List Oper} (h:∀K:Act→World→Prop,Shut (∀a w,S w→(S w→wpAnyH P md ops Q S fuel (listed.setIfInBounds n true) a w)→K a w)→Oper.wp P o a w K Q)
  (hd:ops.toList.drop n=o::r:=by rfl) (hr:Region.ready md ops listed=[n]:=by kernel_rfl) (hw:Region.wanted o (yielded ops a.tmps)=true:=by rfl):wpAnyH P md ops Q S (fuel+1) listed a w :=
 wpAnyH_ready (rs:=[n]) hr (by simp) (AllReadyH.cons (zB hd) (fun K hK=>by rw [if_pos hw];exact h K hK) AllReadyH.nil)
theorem tkd {listed:Array Bool} {a:Act} {w:World} {fuel:Nat} (h:Q .normal a w) (hr:Region.ready md ops listed=[]:=by kernel_rfl):wpAnyH P md ops Q S fuel listed a w:=wpAnyH_done hr h _
theorem tkb (S:World→Prop) {id:Nat} {a:Act} {w:World} (hS:S w.drew) (h:S w.drew→wpAnyH P .any ops Q S ops.size (Array.replicate ops.size false) a w.drew) (hm:P.follows .mixedOrders=true:=by kernel_rfl):(Code.region id ops true).wp P Q a w:=wp_region_held_drew hm hS h
end
structure Fd where
 a:ByteArray
 b:ByteArray
 v:Vx
 deriving Inhabited
abbrev Fnd:=(ByteArray × ByteArray) × Vr
def Fd.fnd (x:Fd):Fnd:=((x.a,x.b),x.v.ver)
def zN (x:Fd):List Value:=.string x.a::.string x.b::zF x.v
def KFd:zC Fd:=⟨171,7,zN,fun _=>rfl,by decide,fun x u hu=>by simp [zN,zF,Vx.sl] at hu;rcases hu with rfl|rfl|rfl|rfl|rfl|rfl|rfl<;>rfl⟩
def zEx (w:World) (b o:Nat) (x:Fd):Prop:=w.cell? ⟨b,o,none⟩=some (.string x.a)/\w.cell? ⟨b,o+1,none⟩=some (.string x.b)/\zBK w b (o+2) x.v
theorem zEi {w:World} {b a:Nat} {d:List Fd} (h:KFd.At w b a d) (i:Nat) (hi:i<d.length):zEx w b (a+i * 7) d[i]:=⟨h i hi 0 _ rfl,h i hi 1 _ rfl,h i hi 2 _ rfl,h i hi 3 _ rfl,h i hi 4 _ rfl,h i hi 5 _ rfl,h i hi 6 _ rfl⟩
structure dC (W:World) (v:Value) (fo:List Fd):Prop where
 is:KFd.Is W v fo
 each:∀f∈fo,f.v.at W/\yW f.v.o/\xO f.v.o
 kfit:∀f∈fo,zAH (f.a,f.b)
theorem dC.on {W c:World} {v:Value} {d:List Fd} (h:dC W v d) (b:Below W.heap.size W c):dC c v d:=⟨zC.is_kept h.is b,fun f a=>⟨wH.kept (h.each f a).1 b,(h.each f a).2⟩,h.kfit⟩
theorem zPK {w:World} {b a:Nat} {p:List Tm} (h:KM.At w b a p) (i:Nat) (hi:i<p.length):w.cell? ⟨b,a+i * 3,none⟩=some (.string (p[i]).1)/\w.cell? ⟨b,a+i * 3+1,none⟩=some (.int .i64 (p[i]).2.1)/\w.cell? ⟨b,a+i * 3+2,none⟩=some (.string (p[i]).2.2):=⟨h i hi 0 _ rfl,h i hi 1 _ rfl,h i hi 2 _ rfl⟩
theorem Tryz.infoTrm:(prog.info? 239).map (fun i=>(i.zero,i.size,i.bytes))=some (some (.agg #[.string ⟨#[]⟩,.int .i64 0,.string ⟨#[]⟩]),3,40):=by kernel_rfl
theorem zHO (a b:Tm) (w:World):(binOp .neq 239 (.agg #[.string a.1,.int .i64 a.2.1,.string a.2.2]) (.agg #[.string b.1,.int .i64 b.2.1,.string b.2.2])).run prog w=.ok (.bool (!decide (a=b))) w:=by
 obtain ⟨f,e,d⟩:=a;obtain ⟨b1,b2,b3⟩:=b;have g:prog.underlying 239=some (.struct (prog.fieldsOf 239)):=by kernel_rfl
 have c:prog.stoodInHeld 239=false:=by kernel_rfl
 have k:=underlying9;have j:=isAgg9;have h:=sizeOf9;have l:=underlying3;have a3':=isAgg3;have i:=sizeOf3;rw [run_neq_struct,show (10000:Nat)=9999+1 from rfl,run_equalIn_agg w 9999 239 _ _ g c];simp only [Program.fieldsOf,underlying239]
 go_simp
 by_cases h1:f=b1
 ·subst h1
  by_cases h2:e=b2
  ·subst h2
   by_cases h3:d=b3
   ·grind
   grind [tN]
  simp [h2]
 grind [tN]
def zQd (w:World) (p:List Tm) (e:Ending) (w':World):Prop:=(∃u,e=.returned (.tuple #[u,.int .i64 (nJ p)])/\KM.Own w.heap.size w' u (zIG p))/\Below w.heap.size w w'
section
open Go.RowKit Go.Sort Go.Lib
theorem zC.cells_set {α:Type} (K:zC α) (d:List α) (i:Nat) (h:i<d.length) (x:α) (j:Nat):(K.cells (d.set i x))[j]? = if i * K.k<=j/\j<i * K.k+K.k then (K.enc x)[j-i * K.k]? else (K.cells d)[j]?:=by
 by_cases hj:j<d.length * K.k
 ·have f:=K.pos;have g:j / K.k<d.length:=(xbY f).2 hj;have a:j % K.k<K.k:=Nat.mod_lt _ f;have e:j / K.k * K.k+j % K.k=j:=by rw [Nat.mul_comm];exact Nat.div_add_mod j K.k
  have b:=K.cells_get (d.set i x) (j / K.k) (by grind) (j % K.k) a;have c:=K.cells_get d (j / K.k) g (j % K.k) a;rw [e] at b c;rw [b,c,List.getElem_set]
  by_cases hi:i=j / K.k
  ·grind
  rw [xag hi,xag]
  grind [blk_iff]
 have l:(i+1) * K.k<=d.length * K.k:=xa1 _ h;rw [xbQ,Nat.one_mul] at l;rw [xag (by omega),xaz (by rw [K.cells_len,xaW];omega),xaz (by rw [K.cells_len];omega)]
theorem zC.own_form {α:Type} {K:zC α} {n0 n c:Nat} {w:World} {q:Option Addr} {d:List α} (h:K.Own n0 w (.slice q n c) d) (i:0<d.length):∃g,q=some ⟨g,0,none⟩/\n0<=g/\d.length=n/\K.At w g 0 d/\∀j,w.frozen? ⟨g,j,none⟩=false:=by
 rcases h.2 with ⟨_,a⟩|⟨g,m,o,b,f,l,_⟩
 ·omega
 injection b with a h2 h3
 subst a;obtain ⟨p,e,r,k⟩:=zC.own_is h
 grind [Lib.frozen_of_heap]
end
section
open Go.RowKit Go.Sort Go.Lib
section
variable {n0 g n cap:Nat} {w:World} {d:List Tm}
theorem zR0 (d:List Tm) (i:Nat) (h:i<d.length) (x:Tm):KM.cells (d.set i x)=(((KM.cells d).set (i * 3) (.string x.1)).set (i * 3+1) (.int .i64 x.2.1)).set (i * 3+2) (.string x.2.2):=by
 apply xaU
 intro j;rw [KM.cells_set d i h x j];have a:(KM.cells d).length=d.length * 3:=KM.cells_len d;have b:KM.k=3:=rfl;rw [b];simp only [xbS,xaW,a]
 by_cases h0:j=i * 3
 ·subst h0;simp [KM,vQ];omega
 by_cases h1:j=i * 3+1
 ·subst h1;simp [KM,vQ];omega
 by_cases h2:j=i * 3+2
 ·subst h2;simp [KM,vQ];omega
 grind
theorem zQN (h:KM.Own n0 w (.slice (some ⟨g,0,none⟩) n cap) d) (a:d.length=n) (i:Nat) (hi:i<d.length) (x:Tm):KM.Own n0 (((w.setCell ⟨g,i * 3,none⟩ (.string x.1)).setCell ⟨g,i * 3+1,none⟩ (.int .i64 x.2.1)).setCell ⟨g,i * 3+2,none⟩ (.string x.2.2)) (.slice (some ⟨g,0,none⟩) n cap) (d.set i x):=by grind [zC.Own,World.ownsRow.stored,zR0]
theorem zPh (d:List Tm) (k:Nat):KM.cells (d.take k)=(KM.cells d).take (k * 3):=by
 apply xaU
 intro j
 by_cases hk:k<=d.length
 ·rw [xa8]
  by_cases hj:j<k * 3
  ·rw [xae hj];have f:j / 3<k:=by omega
   have a:j % 3<3:=by omega
   have e:j / 3 * 3+j % 3=j:=by omega
   have c:=KM.cells_get (d.take k) (j / 3) (by grind) (j % 3) a;have h:=KM.cells_get d (j / 3) (by omega) (j % 3) a;have b:KM.k=3:=rfl
   grind
  rw [xag hj,xaz];have:=KM.cells_len (d.take k);have b:KM.k=3:=rfl
  grind
 rw [xaj (by omega),xaj (by rw [KM.cells_len];show d.length * 3<=_;omega)]
theorem own_cut (h:KM.Own n0 w (.slice (some ⟨g,0,none⟩) n cap) d) (k:Nat) (m:k<=d.length):KM.Own n0 w (.slice (some ⟨g,0,none⟩) k cap) (d.take k):=by
 have b:(d.take k).length=k:=by rw [xa2];omega
 rcases h.2 with ⟨a,_⟩|⟨o,r,j,a,c,f,p,e,l,i⟩
 ·cases a
 injection a with e1 e2 e3
 injection e1 with e1
 injection e1 with e1 _ _
 subst e1 e3;refine ⟨by rw [KM.cells_len],xaf ⟨g,cap,j,by rw [b],c,f,by omega,e,l,?_⟩⟩;rw [b,zPh,<-i,List.take_take]
 congr 1
 have q:KM.k=3:=rfl
 grind
theorem own_past (a:List Value):∀(w:World) (o:Nat),KM.Own n0 w (.slice (some ⟨g,0,none⟩) n cap) d->d.length=n->n * 3<=o->KM.Own n0 (w.setCells g o a) (.slice (some ⟨g,0,none⟩) n cap) d:=by
 induction a with
 | nil=>intro w o h _ _;exact h
 | cons v a ih =>
 intro w o h c e;rw [World.setCells];refine ih _ _ ?_ c (by omega);subst c;have b:=(xbc h o v).1;rw [xbl (by rw [KM.cells_len];exact e)] at b;exact b
theorem zIH (a:List Value):∀(w b:World) (o:Nat),b.grownBy w (some g)->b.grownBy (w.setCells g o a) (some g):=by
 induction a with
 | nil=>intro w b o h;exact h
 | cons v a ih=>grind [World.setCells,nO,xS]
theorem zKT:∀(d:List Tm) (t:Nat),t<d.length * 3->(KM.cells d)[t]? = some (vQ d[t / 3]!)[t % 3]!:=by
 intro d t h;have b:t / 3<d.length:=by omega
 have c:t % 3<3:=by omega
 have e:t / 3 * 3+t % 3=t:=by omega
 have a:=KM.cells_get d (t / 3) b (t % 3) c;have f:KM.k=3:=rfl;rw [f,e] at a;rw [a,xbn d (t / 3) b];have i:(vQ d[t / 3]).length=3:=rfl;show (vQ d[t / 3])[t % 3]? = _
 grind
theorem own_holds (h:KM.Own n0 w (.slice (some ⟨g,0,none⟩) n cap) d):HoldsK vQ 3 w g 0 d.toArray:=by
 rcases h.2 with ⟨a,_⟩|⟨i,q,p,a,f,m,o,l,r,e⟩
 ·cases a
 injection a with e1 e2 e3
 injection e1 with e1
 injection e1 with e1 _ _
 subst e1;intro j hj;rw [size_flatK] at hj;have hj':j<d.length * 3:=by simpa using hj
 have b:=zKT d j hj';have c:KM.k=3:=rfl;rw [<-e,c,xa9 hj'] at b;rw [get_flatK _ _ _ _ hj]
 grind [World.cell?,World.frozen?]
theorem zFi {B:Nat} {b:World} (h:Below B b w) (e:B<=w.heap.size) (a c n:Nat) (d:Array Tm) (os:Array Obj) (f:B<=a):Below B b (sortWorldK vQ 3 w a c n d os):=by
 refine h.trans ⟨rfl,rfl,rfl,?_,?_⟩
 ·simp [sortWorldK,putRowK]
 grind [sortWorldK,Sort.grow,putRowK,putRow,mapBlock,Sort.ahead]
theorem own_sorted (h:KM.Own n0 w (.slice (some ⟨g,0,none⟩) n cap) d) (e:Array Tm) (q:e.size=d.length) (m:Nat) (os:Array Obj):KM.Own n0 (sortWorldK vQ 3 w g 0 m e os) (.slice (some ⟨g,0,none⟩) n cap) e.toList:=by
 have t:=own_holds h
 rcases h.2 with ⟨a,_⟩|⟨x,v,c,a,o,f,y,r,A,u⟩
 ·cases a
 injection a with e1 e2 e3
 injection e1 with e1
 injection e1 with e1 _ _
 subst e1 e2 e3;have l:=(gA f).1;have b:e.toList.length=d.length:=by simpa using q
 have p:(sortWorldK vQ 3 w g 0 m e os).heap[g]? = some (oc (putCells id 0 (flatK vQ 3 e) c) KM.T):=by
  simp only [sortWorldK,Sort.grow,putRowK,putRow,mapBlock,Sort.ahead];rw [xbB (by grind),xb0,xae rfl,f];rfl
 have s:HoldsK vQ 3 (sortWorldK vQ 3 w g 0 m e os) g 0 e:=by
  exact holdsK_grow vQ 3 _ os g 0 _ (by simpa [putRowK] using l) (holdsK_putRowK vQ 3 (Sort.ahead w m) g 0 _ _ (holdsK_ahead vQ 3 w m g 0 _ t) (by omega))
 have z:(putCells id 0 (flatK vQ 3 e) c).size=c.size:=by simp [putCells]
 refine ⟨by rw [KM.cells_len],xaf ⟨g,cap,_,by rw [b],o,p,by omega,r,by omega,?_⟩⟩;apply xaU;intro j;have i:KM.k=3:=rfl;rw [b,i,xa8]
 by_cases hj:j<d.length * 3
 ·rw [xae hj,zKT e.toList j (by omega)];have:=(s j (by rw [size_flatK];omega)).1;rw [get_flatK _ _ _ _ (by omega)] at this
  grind [World.cell?]
 rw [xag hj,xaz];rw [KM.cells_len,i,b];omega
def zF8 (x y:Tm):Int:=qQ (Lib.compareBytes x.1.data.toList y.1.data.toList) (qQ (Lib.compareInt x.2.1 y.2.1) (Lib.compareBytes x.2.2.data.toList y.2.2.data.toList))
theorem jJ (y:Int):qQ 0 y=y:=rfl
theorem bW {x:Int} (h:x≠0) (y:Int):qQ x y=x:=by grind [qQ]
theorem zCD (x y:Tm):ltOf zF8 x y=ltM x y:=by
 obtain ⟨b,a,f⟩:=x;obtain ⟨b1,b2,b3⟩:=y;show decide (qQ (Lib.compareBytes b.data.toList b1.data.toList) (qQ (Lib.compareInt a b2) (Lib.compareBytes f.data.toList b3.data.toList))<0)=if b≠b1 then ltB b b1 else if a≠b2 then decide (a<b2) else ltB f b3
 by_cases h1:b=b1
 ·subst h1;rw [xag (show ¬ (b≠b) by simp),jH,jJ]
  by_cases h2:a=b2
  ·subst h2;have c:Lib.compareInt a a=0:=by unfold Lib.compareInt;simp
   rw [xag (show ¬ (a≠a) by simp),c,jJ];rfl
  rw [xae h2]
  grind [Lib.compareInt,bW]
 have c:Lib.compareBytes b.data.toList b1.data.toList≠0:=fun e=>h1 (zFk ((mZ _ _).1 e))
 rw [xae h1,bW c];rfl
theorem zSW:SWO (ltOf zF8) where
 irrefl x:=by rw [zCD];exact jF x
 trans x y z h1 h2:=by grind [zCD,dE]
 ntrans x y z h1 h2:=by grind [zCD,zAj,dE]
theorem zCb {d:Array Tm} (hs:SortedIn (ltOf zF8) 0 d.size d):qF (compactUpTo d d.size)/\∀x,x∈compactUpTo d d.size↔x∈d.toList:=by
 have k:∀i j,i<=j->j<d.size->ltM d[j]! d[i]! = false:=by
  intro i j p hj
  rcases xbd i j with h|h
  ·have:=hs i j (xaE _) h hj
   rwa [zCD] at this
  grind [jF]
 have f:∀m,m<=d.size->qF (compactUpTo d m)/\∀x,x∈compactUpTo d m↔∃j,j<m/\d[j]! = x:=by
  intro m
  induction m with
  | zero=>intro _;exact ⟨xan,fun x=>by simp [compactUpTo]⟩
  | succ m ih =>
  intro o;obtain ⟨a,b⟩:=ih (by omega);rw [compactUpTo_succ]
  cases hk:keeps d m with
  | true =>
   rw [xae rfl];constructor
   ·refine List.pairwise_append.2 ⟨a,xaF _ _,fun x l y c=>?_⟩;rw [xaH] at c;subst c;obtain ⟨j,hj,rfl⟩:=(b x).1 l
    have r:d[m]!≠d[m-1]!:=by
     unfold keeps at hk
     rcases xaM hk with h|h
     ·omega
     exact h
    have q:=k j (m-1) (by omega) (by omega)
    grind [zAj]
   grind
  | false=>grind [keeps]
 obtain ⟨a,b⟩:=f d.size (zaL _);refine ⟨a,fun x=>(b x).trans ?_⟩;rw [List.mem_iff_getElem];constructor
 ·grind
 rintro ⟨j,hj,e⟩;have hj':j<d.size:=by simpa using hj
 exact ⟨j,hj',by grind⟩
end
end
section
open Go.RowKit Go.Sort Go.Lib
def xP (x:Ky):List Value:=[.string x.1,.string x.2]
def KK:zC Ky:=⟨36,2,xP,fun _=>rfl,by decide,fun x u hu=>by simp [xP] at hu;rcases hu with rfl|rfl<;>rfl⟩
theorem zH9 {w:World} {b a:Nat} {d:List Ky} (h:KK.At w b a d) (i:Nat) (hi:i<d.length):w.cell? ⟨b,a+i * 2,none⟩=some (.string d[i].1)/\w.cell? ⟨b,a+i * 2+1,none⟩=some (.string d[i].2):=⟨h i hi 0 _ rfl,h i hi 1 _ rfl⟩
theorem zC.take_cells {α:Type} (K:zC α):∀(d:List α) (k:Nat),K.cells (d.take k)=(K.cells d).take (k * K.k)
 | [],k=>by simp [zC.cells]
 | x::d,0=>by simp [zC.cells]
 | x::d,k+1=>by
  have b:K.cells (x::d)=K.enc x++K.cells d:=rfl;have c:K.cells ((x::d).take (k+1))=K.enc x++K.cells (d.take k):=rfl;have a:(K.enc x).take (k * K.k+K.k)=K.enc x:=xaj (by rw [K.len];omega);rw [b,c,K.take_cells d k,xbQ,Nat.one_mul,List.take_append,a,K.len,Nat.add_sub_cancel]
theorem zC.own_cut {α:Type} {K:zC α} {n0 g n a:Nat} {w:World} {d:List α} (h:K.Own n0 w (.slice (some ⟨g,0,none⟩) n a) d) (k:Nat) (q:k<=d.length):K.Own n0 w (.slice (some ⟨g,0,none⟩) k a) (d.take k):=by
 have c:(d.take k).length=k:=by rw [xa2];omega
 rcases h.2 with ⟨b,_⟩|⟨o,r,i,b,e,j,p,f,l,m⟩
 ·cases b
 injection b with e1 e2 e3
 injection e1 with e1
 injection e1 with e1 _ _
 subst e1 e3;refine ⟨by rw [K.cells_len],xaf ⟨g,a,i,by rw [c],e,j,by omega,f,l,?_⟩⟩;rw [c,K.take_cells,<-m,List.take_take]
 grind [Nat.mul_le_mul_right]
theorem zC.own_past {α:Type} {K:zC α} {n0 g n c:Nat} {d:List α} (a:List Value):∀(w:World) (o:Nat),K.Own n0 w (.slice (some ⟨g,0,none⟩) n c) d->d.length=n->n * K.k<=o->K.Own n0 (w.setCells g o a) (.slice (some ⟨g,0,none⟩) n c) d:=by
 induction a with
 | nil=>intro w o h _ _;exact h
 | cons v a ih =>
 intro w o h e f;rw [World.setCells];refine ih _ _ ?_ e (by omega);subst e;have b:=(xbc h o v).1;rw [xbl (by rw [K.cells_len];exact f)] at b;exact b
theorem zC.flat {α:Type} [Inhabited α] (K:zC α) (d:List α) (t:Nat) (h:t<d.length * K.k):(K.cells d)[t]? = some (K.enc d[t / K.k]!)[t % K.k]!:=by
 have b:t / K.k<d.length:=(xbY K.pos).2 h;have a:t % K.k<K.k:=Nat.mod_lt _ K.pos;have e:t / K.k * K.k+t % K.k=t:=by rw [Nat.mul_comm];exact Nat.div_add_mod t K.k
 have c:=K.cells_get d (t / K.k) b (t % K.k) a;rw [e] at c;rw [c,xbn d (t / K.k) b,xai (by rw [K.len];exact a),xbn _ _ (by rw [K.len];exact a)]
theorem zC.own_holds {α:Type} [Inhabited α] {K:zC α} {n0 g n b:Nat} {w:World} {d:List α} (h:K.Own n0 w (.slice (some ⟨g,0,none⟩) n b) d):HoldsK K.enc K.k w g 0 d.toArray:=by
 rcases h.2 with ⟨a,_⟩|⟨i,r,m,a,f,o,p,l,q,e⟩
 ·cases a
 injection a with e1 e2 e3
 injection e1 with e1
 injection e1 with e1 _ _
 subst e1;intro j hj;rw [size_flatK] at hj;have hj':j<d.length * K.k:=by simpa using hj
 have c:=K.flat d j hj';rw [<-e,xa9 hj'] at c;rw [get_flatK _ _ _ _ hj]
 grind [World.cell?,World.frozen?]
theorem gY {α:Type} [Inhabited α] (enc:α->List Value) (k:Nat) {B:Nat} {b w:World} (h:Below B b w) (f:B<=w.heap.size) (a c n:Nat) (d:Array α) (os:Array Obj) (e:B<=a):Below B b (sortWorldK enc k w a c n d os):=by
 refine h.trans ⟨rfl,rfl,rfl,?_,?_⟩
 ·simp [sortWorldK,putRowK]
 grind [sortWorldK,Sort.grow,putRowK,putRow,mapBlock,Sort.ahead]
theorem zC.own_sorted {α:Type} [Inhabited α] {K:zC α} {n0 g n a:Nat} {w:World} {d:List α} (h:K.Own n0 w (.slice (some ⟨g,0,none⟩) n a) d) (e:Array α) (i:e.size=d.length) (m:Nat) (os:Array Obj):K.Own n0 (sortWorldK K.enc K.k w g 0 m e os) (.slice (some ⟨g,0,none⟩) n a) e.toList:=by
 have q:=K.own_holds h
 rcases h.2 with ⟨c,_⟩|⟨u,A,b,c,r,l,z,p,x,B⟩
 ·cases c
 injection c with e1 e2 e3
 injection e1 with e1
 injection e1 with e1 _ _
 subst e1 e2 e3;have s:=(gA l).1;have f:e.toList.length=d.length:=by simpa using i
 have t:(sortWorldK K.enc K.k w g 0 m e os).heap[g]? = some (oc (putCells id 0 (flatK K.enc K.k e) b) K.T):=by
  simp only [sortWorldK,Sort.grow,putRowK,putRow,mapBlock,Sort.ahead];rw [xbB (by grind),xb0,xae rfl,l];rfl
 have o:HoldsK K.enc K.k (sortWorldK K.enc K.k w g 0 m e os) g 0 e:=by
  exact holdsK_grow K.enc K.k _ os g 0 _ (by simpa [putRowK] using s) (holdsK_putRowK K.enc K.k (Sort.ahead w m) g 0 _ _ (holdsK_ahead K.enc K.k w m g 0 _ q) (by omega))
 have y:(putCells id 0 (flatK K.enc K.k e) b).size=b.size:=by simp [putCells]
 refine ⟨by rw [K.cells_len],xaf ⟨g,a,_,by rw [f],r,t,by omega,p,by omega,?_⟩⟩;apply xaU;intro j;rw [f,xa8]
 by_cases hj:j<d.length * K.k
 ·have v:j<e.size * K.k:=by rw [i];exact hj
  rw [xae hj,K.flat e.toList j (by omega)];have:=(o j (by grind [size_flatK])).1;rw [get_flatK _ _ _ _ (by omega)] at this
  grind [World.cell?]
 rw [xag hj,xaz];rw [K.cells_len,f];omega
theorem zC.own_ge {α:Type} {K:zC α} {n0 g n a:Nat} {w:World} {d:List α} (h:K.Own n0 w (.slice (some ⟨g,0,none⟩) n a) d):n0<=g/\g<w.heap.size/\d.length<=a/\a<=maxLen:=by
 rcases h.2 with ⟨b,_⟩|⟨e,l,i,b,c,j,k,f,_⟩
 ·cases b
 grind
theorem zC.own_at {α:Type} {K:zC α} {n0 g n a:Nat} {w:World} {d:List α} (h:K.Own n0 w (.slice (some ⟨g,0,none⟩) n a) d):K.At w g 0 d:=by
 by_cases h0:0<d.length
 ·grind [zC.own_form]
 intro i hi;omega
theorem zC.newsN {α:Type} (K:zC α) (W:World) (x:α) (N:Nat) (a:N=W.heap.size):∀j u,(K.cells [x])[j]? = some u->(W.alloc (.cells (K.enc x).toArray K.T)).cell? ((⟨N,0,none⟩:Addr).add j)=some u:=by
 subst a;exact K.news W x
end
namespace Z
open Go.RowKit Go.Lib
section
variable {w:World} {base g n cap:Nat} {d:List (ByteArray × ByteArray)} {xs:List Value}
theorem bZ {dk:Array (ByteArray × ByteArray)} (h:Own w base (.slice (some ⟨g,0,none⟩) n cap) dk.toList) (i:Nat) (hi:i<dk.size):w.cell? ⟨g,i * 2,none⟩=some (.string dk[i]!.1)/\w.cell? ⟨g,i * 2+1,none⟩=some (.string dk[i]!.2)/\w.frozen? ⟨g,i * 2,none⟩=false/\w.frozen? ⟨g,i * 2+1,none⟩=false:=by
 obtain ⟨rfl,a⟩:=h.keysAt;have:=a i (by omega);rw [xaJ] at this;have e:dk.toList[i]'(by omega)=dk[i]!:=by rw [xbn dk i hi];simp
 rw [e] at this;exact ⟨this.1,this.2,World.ownsRow.frozenAt h _,World.ownsRow.frozenAt h _⟩
theorem zGF (h:Own w base (.slice (some ⟨g,0,none⟩) n cap) d) (j:Nat):w.frozen? ⟨g,j,none⟩=false:=by
 obtain ⟨rfl,_⟩:=h.keysAt;exact World.ownsRow.frozenAt h j
theorem zMG (h:Own w base (.slice (some ⟨g,0,none⟩) n cap) d) (j:Nat) (hj:j<d.length * 2):(w.cell? ⟨g,j,none⟩).isSome=true:=by
 obtain ⟨rfl,_⟩:=h.keysAt;rw [World.ownsRow.cellAt h j hj,xai (by grind [uW])];rfl
theorem zIC {dk:Array (ByteArray × ByteArray)} (h:Own w base (.slice (some ⟨g,0,none⟩) n cap) dk.toList) (i:Nat) (hi:i<dk.size) (a b:ByteArray):Own ((w.setCell ⟨g,i * 2,none⟩ (.string a)).setCell ⟨g,i * 2+1,none⟩ (.string b)) base (.slice (some ⟨g,0,none⟩) n cap) (dk.setIfInBounds i (a,b)).toList:=by
 obtain ⟨rfl,_⟩:=h.keysAt;have c:=(xbc h (i * 2) (tq a)).1;have e:=(xbc c (i * 2+1) (tq b)).1
 grind [Own,zIh]
theorem zPB (h:w.ownsRow base 36 2 (.slice (some ⟨g,0,none⟩) n cap) n xs) (k:Nat) (j:k<=n):w.ownsRow base 36 2 (.slice (some ⟨g,0,none⟩) k cap) k (xs.take (k * 2)):=by
 obtain ⟨l,a|⟨m,q,f,a,e,c,o,i,b,p⟩⟩:=h
 ·simp at a
 simp only [Value.slice.injEq,Option.some.injEq,Addr.mk.injEq,and_true,true_and] at a;obtain ⟨rfl,rfl⟩:=a;refine ⟨by grind,.inr ⟨g,cap,f,rfl,e,c,by omega,i,b,?_⟩⟩
 grind
theorem cD {k:Nat}:∀(a:List Value) (o:Nat) (w:World),k * 2<=o->w.ownsRow base 36 2 (.slice (some ⟨g,0,none⟩) k cap) k xs ->
  (w.setCells g o a).ownsRow base 36 2 (.slice (some ⟨g,0,none⟩) k cap) k xs
 | [],_,_,_,h=>h
 | v::a,o,w,ho,h=>by
  unfold World.setCells;refine cD a (o+1) _ (by omega) ?_;have:=(xbc h o v).1
  rwa [xbl (by rw [h.1];omega)] at this
theorem zMA {b:Nat} {dk:Array (ByteArray × ByteArray)} (a:CompInv d.toArray d.length b dk):compact d=dk.toList.take b:=by
 have e:dk.size=d.length:=by simpa using a.size
 have c:=a.lt;unfold compact;apply xaU;intro j
 by_cases hj:j<b
 ·rw [a.low j hj,xa9 hj,xai (by simp;omega),xbn dk j (by omega)];simp
 rw [xaz (by rw [a.len];omega),xaz (by grind)]
theorem zFC (g cap base:Nat) (d:List (ByteArray × ByteArray)) (w:World) (M:Own w base (.slice (some ⟨g,0,none⟩) d.length cap) d) (an:d.length<=cap) (hm:cap<=maxLen):CC 202 #[.slice (some ⟨g,0,none⟩) d.length cap] w fun e Z =>
   e=.returned (.slice (some ⟨g,0,none⟩) (compact d).length cap)/\Own Z base (.slice (some ⟨g,0,none⟩) (compact d).length cap) (compact d)/\Below g w Z:=by
 unfold maxLen at hm;have E:=hid M;clear M;have Y:(∀j,j<d.length->keeps d.toArray j=true)->compact d=d:=compact_all d;have U:=hid Y;clear Y;have ah:=fun a b c d w=>eql_key a b c d w
 have al:=fun a b c d w=>zPd a b c d w
 by_cases h2:d.length<2
 ·have h2':(d.length:Int)<2:=by omega
  go_enter func202,ntmps202
  go_wp2
  go_ret;have e:=U.o (fun j hj=>keeps_lt_one _ j (by omega));rw [e];exact ⟨rfl,E.o,zaR _ _⟩
 have h2':¬ (d.length:Int)<2:=by omega
 go_enter func202,ntmps202
 go_wp2
 go_loopg [3] d.length (fun C D wr=>∃k q:Nat,1<=k/\k<=d.length/\d.length-k<=C/\D=ii k/\wr=w.drewN q/\∀j,j<k->keeps d.toArray j=true)
 case atStart=>exact ⟨1,0,zaL _,by omega,by omega,rfl,rfl,keeps_lt_one _⟩
 obtain ⟨k,q,ao,hk,hg,rfl,rfl,S⟩:=hrel;have A:=hid S;clear S
 by_cases hlt:k<d.length
 ·have P:d=d.toArray.toList:=by simp
  have ho':Own w base (sc (some (aa g 0)) d.length cap) d.toArray.toList:=by rw [<-P];exact E.o
  obtain ⟨t,v,_,_⟩:=bZ ho' k (by simpa using hlt);obtain ⟨p1,p2,_,_⟩:=bZ ho' (k-1) (by simp;omega);have HV:Hid (d.toArray[k]! = d.toArray[k]!/\d.toArray[k-1]! = d.toArray[k-1]!):=⟨rfl,rfl⟩;have HO':=hid ho';clear ho' P;have H:∃x y,d.toArray[k]! = x/\d.toArray[k-1]! = y:=⟨_,_,rfl,rfl⟩;obtain ⟨⟨x1,x2⟩,⟨y1,y2⟩,p,r⟩:=H;rw [p] at t v;rw [r] at p1 p2;have s:=hid (xbf p r);clear p r HV;have T:(0:Int)<=↑k-1:=by omega
  have W:(↑k:Int) < ↑d.length:=by omega
  have L:(↑k-1:Int) < ↑d.length:=by omega
  by_cases hdup:(x1,x2)=(y1,y2)
  ·obtain ⟨rfl,rfl⟩:=Prod.mk.inj hdup;have z:=zHF x1 x2;go_wp2_with fail
   go_quiet (fail)
   go_wp2_with fail
   have N:CompInv d.toArray (k+1) k d.toArray:=CompInv.start A.o (keeps_neg (by omega) (by rw [s.o.1,s.o.2]));have ad:=hid N;clear N t v p1 p2 T W L z
   go_loopg [3,5] d.length (fun C D s5 wr=>∃(h f:Nat) (i:Array (ByteArray × ByteArray)),D=ii h/\s5=ii f/\1<=f/\k+f<=d.length/\d.length-(k+f)<=C/\Own wr base (sc (some (aa g 0)) d.length cap) i.toList/\Below g w wr/\CompInv d.toArray (k+f) h i)
   case atStart=>exact ⟨k,1,d.toArray,rfl,rfl,zaL _,by omega,by omega,HO'.out,xbX (zaR _ _) _,ad.o⟩
   obtain ⟨h,f,i,rfl,rfl,h1,ak,aj,m,B,l⟩:=hrel;have ai:=l.lt;have af:i.size=d.length:=by simpa using l.size
   have Q:=hid l;have G:=hid m;have F:=hid B
   by_cases hlt2:k+f<d.length
   ·obtain ⟨t,v,_,_⟩:=bZ m (k+f) (by omega);obtain ⟨p1,p2,_,_⟩:=bZ m (k+f-1) (by omega);obtain ⟨b1,b2,b3,b4⟩:=bZ m h (by omega);rw [l.high (k+f) (by omega),show (k+f) * 2=k * 2+f * 2 by omega] at t v;rw [l.high (k+f-1) (by omega),show (k+f-1) * 2=k * 2+(f-1) * 2 by omega] at p1 p2;have H:∃x y,d.toArray[k+f]! = x/\d.toArray[k+f-1]! = y:=⟨_,_,rfl,rfl⟩;obtain ⟨⟨u1,u2⟩,⟨v1,v2⟩,p,r⟩:=H;rw [p] at t v;rw [r] at p1 p2;have u:=hid (xbf p r);clear p r m B l
    generalize i[h]!.1=o1 at *
    generalize i[h]!.2=o2 at *
    have T:(0:Int)<=↑f-1:=by omega
    have W:(↑f:Int) < ↑(d.length-k):=by omega
    have L:(↑f-1:Int) < ↑(d.length-k):=by omega
    by_cases huv:(u1,u2)=(v1,v2)
    ·obtain ⟨rfl,rfl⟩:=Prod.mk.inj huv;have z:=zHF u1 u2;go_wp2_with fail
     go_quiet (fail)
     go_wp2_with fail
     go_roundg (d.length-(k+(f+1)))
     case measure=>omega
     case rel=>exact ⟨h,f+1,i,rfl,by go_num,by omega,by omega,zaL _,G.o,xbX F.o _,Q.o.skip (keeps_neg (by omega) (by rw [u.o.1,u.o.2]))⟩
    have z:eqK u1 u2 v1 v2=false:=by rw [eqK_iff (u1,u2) (v1,v2)];simpa using huv
    have J:=hid huv;clear huv;go_wp2_with fail
    go_quiet (fail)
    go_wp2_with fail
    go_roundg (d.length-(k+(f+1)))
    case measure=>omega
    case rel =>
     refine ⟨h+1,f+1,i.setIfInBounds h (u1,u2),by go_num,by go_num,by omega,by omega,zaL _,zIC G.o h (by omega) u1 u2,xbX ((F.o.setCell (zaL _) _).setCell (zaL _) _) _,?_⟩;have:=Q.o.keep (by simpa using hlt2) (keeps_pos (by rw [u.o.1,u.o.2];exact J.o))
     rwa [u.o.1] at this
   have ac:k+f=d.length:=by omega
   have ae:∀K,(Builtin.clear_ #[46] K #[sc (some (aa g (h * 2))) (d.length-h) (cap-h)]).run prog wr=.ok (.tuple #[]) (wr.setCells g (h * 2) (List.replicate ((d.length-h) * 2) (tq ⟨#[]⟩))):=by
    intro K;refine zDm wr K g (h * 2) (d.length-h) (cap-h) (by omega) ?_ ?_
    ·intro j hj;exact zMG m _ (by rw [xaB];omega)
    intro j _;exact zGF m _
   generalize hz:List.replicate ((d.length-h) * 2) (Value.string ⟨#[]⟩)=zs at ae
   have V:compact d=i.toList.take h:=by
    rw [ac] at l;exact zMA l
   have R:=hid V;clear hz V l m B;have am:¬ k+f<d.length:=hlt2;go_wp2_with fail;go_ret;have O:(compact d).length=h:=by rw [R.o,xa2,xaB];omega
   rw [O];refine ⟨rfl,?_,gN g (zaL _) _ _ F.o⟩;have I:=G.o;have ag:i.toList.length=d.length:=by rw [xaB];exact af
   unfold Own at I ⊢;rw [ag] at I;have X:=cD zs (h * 2) wr (zaL _) (zPB I h (by omega));rw [zGD,<-R.o] at X;rw [O];exact X
  have z:eqK x1 x2 y1 y2=false:=by rw [eqK_iff (x1,x2) (y1,y2)];simpa using hdup
  have J:=hid hdup;clear hdup;go_wp2_with fail
  go_quiet (fail)
  go_wp2_with fail
  go_roundg (d.length-(k+1))
  case measure=>omega
  case rel =>
   refine ⟨k+1,q+nq,by omega,by omega,zaL _,by go_num,by simp,fun j hj=>?_⟩
   by_cases e:j=k
   ·subst e;exact keeps_pos (by rw [s.o.1,s.o.2];exact J.o)
   exact A.o j (by omega)
 have ab:k=d.length:=by omega
 have e:=U.o (fun j hj=>A.o j (by omega));have s:=hid e;clear e ab;go_wp2;go_ret;rw [s.o];exact ⟨rfl,E.o,xbX (zaR _ _) _⟩
end
end Z
namespace Z
open Go.Lib Go.Sort
def ahead (x y:ByteArray × ByteArray):Prop:=cmpK x y<0
theorem ahead_iff (x y:ByteArray × ByteArray):ltOf cmpK x y=true↔ahead x y:=by grind [ltOf,ahead]
theorem ahead_total (x y:ByteArray × ByteArray):ahead x y∨x=y∨ahead y x:=by
 have d:cmpK y x=- cmpK x y:=zGP _ _ _ _;have c:cmpK x y=-1∨cmpK x y=0∨cmpK x y=1:=zI5 _ _ _ _
 rcases c with h|h|h
 ·grind [ahead]
 ·right;left;obtain ⟨e,f⟩:=(dF _ _ _ _).1 h;obtain ⟨⟨⟨a⟩⟩,⟨⟨b⟩⟩⟩:=x
  simp_all
 grind [ahead]
def Rises (r:List (ByteArray × ByteArray)):Prop:=r.Pairwise ahead
theorem zDh (d:Array (ByteArray × ByteArray)) (n:Nat) (hs:SortedIn (ltOf cmpK) 0 n d):∀m,m<=n ->
  Rises (compactUpTo d m)/\(∀x,x∈compactUpTo d m->∃j,j<m/\x=d[j]!)/\(∀j,j<m->d[j]!∈compactUpTo d m):=by
 intro m
 induction m with
 | zero=>intro _;exact ⟨xan,fun x a=>by simp [compactUpTo] at a,fun j hj=>by omega⟩
 | succ m ih =>
 intro g;obtain ⟨e,f,k⟩:=ih (by omega);rw [compactUpTo_succ]
 have c:∀i,i<m->ahead d[i]! d[m]!∨d[i]! = d[m]!:=by
  intro i hi;have:=hs i m (xaE _) hi (by omega)
  rcases ahead_total d[i]! d[m]! with h|h|h
  ·exact .inl h
  ·exact .inr h
  grind [ahead_iff]
 by_cases hk:keeps d m=true
 ·rw [xae hk];refine ⟨?_,?_,?_⟩
  ·refine List.pairwise_append.2 ⟨e,xaF _ _,fun x a y b=>?_⟩;rw [xaH] at b;subst b;obtain ⟨j,hj,rfl⟩:=f x a
   have l:d[m]!≠d[m-1]!:=by
    have:m=0∨d[m]!≠d[m-1]!:=by simpa [keeps] using hk
    rcases this with h|h
    ·omega
    exact h
   have o:ahead d[m-1]! d[m]!:=by
    rcases c (m-1) (by omega) with h|h
    ·exact h
    grind
   by_cases hjm:j=m-1
   ·grind
   have:=hs j (m-1) (xaE _) (by omega) (by omega)
   grind [ahead_iff]
  ·grind
  grind
 grind [keeps]
theorem zCc (l:List (ByteArray × ByteArray)) (d:Array (ByteArray × ByteArray)) (c:PermIn 0 l.length l.toArray d) (hs:SortedIn (ltOf cmpK) 0 l.length d):Rises (compact d.toList)/\(∀x,x∈compact d.toList↔x∈l)/\d.size=l.length:=by
 obtain ⟨g,_,a⟩:=c;have b:d.size=l.length:=by simpa using g
 have k:d.toList.Perm l:=by
  have f:(d.extract 0 l.length).toList=d.toList:=by rw [<-b];simp
  have i:(l.toArray.extract 0 l.length).toList=l:=by simp
  rw [f,i] at a;exact a
 have h:d.toList.toArray=d:=by simp
 obtain ⟨m,j,n⟩:=zDh d l.length hs l.length (zaL _)
 have e:compact d.toList=compactUpTo d l.length:=by
  unfold compact;rw [h,xaB,b]
 grind [List.mem_iff_getElem]
end Z
namespace Z
open Go.RowKit Go.Sort Go.Lib
theorem zD7 (enc:Value->Value) (a:Nat) (d c:Array Value):(putCells enc a d c).size=c.size:=by
 unfold putCells;simp
theorem zFv {b:World} {h g c n:Nat} {e:Array Value} {os:Array Obj} (d a:Array (ByteArray × ByteArray)) (l:h<=g) (q:g<b.heap.size) (m:b.heap[g]? = some (.cells e 36 (0,0)))
  (hcap:d.size<=c) (hm:c<=maxLen) (hsz:e.size=c * 2) (hH:HoldsK encKey 2 b g 0 d) (hd:a.size=d.size):Own (sortWorldK encKey 2 b g 0 n a os) h (.slice (some ⟨g,0,none⟩) a.size c) a.toList:=by
 have o:HoldsK encKey 2 (sortWorldK encKey 2 b g 0 n a os) g 0 a :=
  holdsK_grow encKey 2 _ os g 0 _ (by simpa [putRowK] using q) (holdsK_putRowK encKey 2 (Sort.ahead b n) g 0 _ _ (holdsK_ahead encKey 2 b n g 0 _ hH) hd)
 have i:(sortWorldK encKey 2 b g 0 n a os).heap[g]? = some (oc (putCells id 0 (flatK encKey 2 a) e) 36):=by
  simp only [sortWorldK,grow,putRowK,putRow,mapBlock,Sort.ahead];rw [xbB (by grind),xb0,xae rfl,m];rfl
 refine ⟨uW _,.inr ⟨g,c,_,by simp,l,i,by simp;omega,hm,by rw [zD7,hsz],?_⟩⟩;apply xaU;intro j
 by_cases hj:j<a.size * 2
 ·rw [xa9 (by omega)];have f:=(o j (by simpa using hj)).1;simp only [World.cell?,i,xaJ] at f;rw [get_flatK _ _ _ _ hj] at f;have k:=zA6 a.toList j (by omega)
  have r:a.toList[j / 2]! = a[j / 2]!:=by
   rw [xbn a (j / 2) (by omega),xbn a.toList (j / 2) (by simp;omega)];simp
  rw [r] at k;have p:(putCells id 0 (flatK encKey 2 a) e)[j]? = some (encKey a[j / 2]!)[j % 2]!:=f;rw [xbw,p];exact k.symm
 grind [uW]
theorem zsort_any (b m c:Nat) (d:List (ByteArray × ByteArray)) (w:World) (I:KeysAt w b m d) (ag:d.length * 32<=140737488355328):CC 150 #[.slice (some ⟨b,m,none⟩) d.length c] w fun e W =>
   ∃v r,e=.returned v/\Rises r/\(∀x,x∈r↔x∈d)/\r.length<=d.length/\Own W w.heap.size v r/\v≠.slice none 0 0/\Below w.heap.size w W:=by
 have G:∀j u,(uB d)[j]? = some u->w.cell? (aa b (m+j))=some u:=by
  intro j u g
  have hj:j<d.length * 2:=by
   rw [<-uW]
   rcases xbd j (uB d).length with h|h
   ·exact h
   rw [xaz h] at g;cases g
  obtain ⟨k,C⟩:=I (j / 2) (by omega);obtain ⟨e1,e2⟩:=zCh d (j / 2) (by omega)
  rcases Nat.mod_two_eq_zero_or_one j with hm|hm
  ·have l:j / 2 * 2=j:=by omega
   rw [l] at k e1;rw [e1] at g;rw [k,<-g]
  have l:j / 2 * 2+1=j:=by omega
  rw [Nat.add_assoc,l] at C;rw [l] at e2;rw [e2] at g;rw [C,<-g]
 have S:=zIS b m d.length c (uB d) w (uW d) (by unfold maxLen;omega) ag G (zHv d);have H:=hid S;clear G I S;go_enter func150,ntmps150;go_wp2_with fail;refine H.out.mono ?_;rintro e p ⟨v',rfl,⟨hl,Y⟩,R,L⟩
 rcases Y with ⟨k,C⟩|⟨f,A,ah,rfl,s,i,ad,K,Q,M⟩
 ·exact absurd k R
 have J:f<p.z:=by
  rcases xbd f p.z with h|h
  ·exact h
  rw [Array.getElem?_eq_none h] at i;cases i
 have E:HoldsK encKey 2 p f 0 d.toArray:=cJ d.toArray i (by simpa [zNt,uB] using M);have y:=zsortfunc_any f 0 A d.toArray p E J (by simp;omega);rw [show d.toArray.size=d.length by simp] at y;have Z:=hid y;have D:=hid (xbf E (xbf i Q));clear y E hl R i M Q;go_wp2_with fail;refine Z.o.mono ?_;rintro e t ⟨rfl,a,n,os,N,F,B⟩;obtain ⟨V,T,hds⟩:=zCc d a N F
 have P:Own t w.z (sc (some (aa f 0)) a.size A) a.toList:=by
  rw [B];exact zFv d.toArray a s J D.o.2.1 (by simpa using ad) K D.o.2.2 D.o.1 (by simpa using hds)
 have X:Bw w t:=by
  rw [B];exact jU L L.size f 0 n _ os s
 have q:=zFC f A w.z a.toList t (by rw [xaB];exact P) (by rw [xaB];omega) K;rw [xaB,hds] at q;have ab:=hid q;have U:=hid (xbf V T)
 have O:(compact a.toList).length<=d.length:=by
  have h5:(compact a.toList).length<=a.size:=by
   unfold compact compactUpTo;rw [zaM];exact zaU (xaS _ _) (by simp)
  exact zaU h5 (Nat.le_of_eq hds)
 have af:=hid O;clear B N F q V T P O hds;go_wp2_with fail;refine ab.o.mono ?_;rintro e w3 ⟨rfl,ae,ac⟩;go_wp2_with fail;go_ret;exact ⟨_,_,rfl,U.o.1,U.o.2,af.o,ae,by simp,X.trans (ac.mono s)⟩
end Z
theorem zSV {w:World} {b off:Nat} {d:List Ky} (h:KK.At w b off d):Z.KeysAt w b off d:=fun i hi=>zH9 h i hi
theorem zPg (x y:Ky):Z.ahead x y↔yR x y=true:=by
 unfold Z.ahead Z.cmpK Z.cmpI Z.orI;rw [fX];unfold ltB;rw [xaQ,xaQ]
 by_cases h:Lib.compareBytes x.1.L y.1.L=0
 ·rw [xae h]
  grind [zFk,mZ]
 rw [xag h]
 grind [jH]
theorem zPw {r:List Ky} (h:Z.Rises r):yU yR r:=h.imp fun {x y} hxy=>(zPg x y).1 hxy
def wM (ks:List Ky):List Ky:=ks.foldl (fun acc x=>qJ yR x acc) []
theorem tC (ks:List Ky):yU yR (wM ks)/\∀z,z∈wM ks↔z∈ks:=by
 have:∀(l acc:List Ky),yU yR acc->yU yR (l.foldl (fun acc x=>qJ yR x acc) acc)/\∀z,z∈l.foldl (fun acc x=>qJ yR x acc) acc↔z∈acc∨z∈l:=by
  intro l
  induction l with
  | nil=>grind
  | cons y l ih=>grind [qI,wX,mF]
 obtain ⟨h1,h2⟩:=this ks [] xan
 grind [wM]
theorem zA4 (W:World):CC 155 #[.slice none 0 0,.func (.func 104) #[] #[]] W fun e w'=>e=.returned (.tuple #[])/\w'=W:=by
 have hi:∀W,CC 250 #[sc none 0 0,ii 0,ii 0,.func (.func 104) #[] #[]] W fun e w'=>e=.returned (.tuple #[])/\w'=W:=fun W=>by
  go_enter func250,ntmps250
  go_wp2_with fail
  refine xaD 1 ?_;rw [xav];go_wp2_with fail
  go_end0
  exact ⟨rfl,rfl⟩
 have HI:=hid hi
 have hp:∀(l:Int) W,CC 208 #[sc none 0 0,ii 0,ii 0,ii l,.func (.func 104) #[] #[]] W fun e w'=>e=.returned (.tuple #[])/\w'=W:=fun l W=>by
  go_enter func208,ntmps208
  go_wp2_with fail
  refine xaD 1 ?_;rw [xav];go_wp2_with (first|(go_at_call 250;refine (HI.o _).mono ?_;rintro e w1 ⟨rfl,rfl⟩));refine zaB (xbV (h:=results208) _ _ _) rfl ?_;exact ⟨rfl,rfl⟩
 have HP:=hid hp;go_enter func155,ntmps155;go_wp2_with (first|(go_at_call 209;refine (Tryz.bits_Len 0 _ (by omega) (by omega)).mono ?_;rintro e w1 ⟨rfl,rfl⟩)|(go_at_call 208;refine (HP.o _ _).mono ?_;rintro e w1 ⟨rfl,rfl⟩))
 go_end0
 exact ⟨rfl,rfl⟩
theorem zML (w:World):CC 150 #[.slice none 0 0] w fun e w'=>e=.returned (.slice none 0 0)/\w'=w:=by
 have q22:∀(w:World) (a:Option Addr) (n c n' c':Nat),(binOp .eql 46 (sc a n c) (sc none n' c')).run prog w=.ok (.bool a.isNone) w:=fun w a n c n' c'=>xbv w _ _ a n c n' c' underlying46
 have hclone:∀W,CC 190 #[sc none 0 0] W fun e w'=>e=.returned (sc none 0 0)/\w'=W:=fun W=>by
  go_enter func190,ntmps190
  go_wp2_with fail
  go_ret;exact ⟨rfl,rfl⟩
 have HC:=hid hclone;have hs:∀W,CC 155 #[sc none 0 0,.func (.func 104) #[] #[]] W fun e w'=>e=.returned (.tuple #[])/\w'=W:=fun W=>zA4 W
 have HS:=hid hs
 have hk:∀W,CC 202 #[sc none 0 0] W fun e w'=>e=.returned (sc none 0 0)/\w'=W:=fun W=>by
  go_enter func202,ntmps202
  go_wp2_with fail
  go_ret;exact ⟨rfl,rfl⟩
 have HK:=hid hk;go_enter func150,ntmps150
 go_wp2_with (first
  | (go_at_call 190;refine (HC.o _).mono ?_;rintro e w1 ⟨rfl,rfl⟩)
  | (go_at_call 155;refine (HS.o _).mono ?_;rintro e w1 ⟨rfl,rfl⟩)
  | (go_at_call 202;refine (HK.o _).mono ?_;rintro e w1 ⟨rfl,rfl⟩))
 go_ret;exact ⟨rfl,rfl⟩
theorem zE8 (n0:Nat) (v:Value) (ks:List Ky) (w:World) (h:KK.Own n0 w v ks) (hl:ks.length<=4398046511104):CC 150 #[v] w fun e w'=>∃u,e=.returned u/\KK.Own w.heap.size w' u (wM ks)/\Below w.heap.size w w':=by
 rcases h.2 with ⟨rfl,hz⟩|⟨g,cap,cur,rfl,_⟩
 ·obtain rfl:=List.length_eq_zero_iff.1 hz;refine (zML w).mono ?_;rintro e w' ⟨rfl,rfl⟩;exact ⟨_,rfl,KK.own_nil _ _,zaR _ _⟩
 refine (Z.zsort_any g 0 cap ks w (zSV (zC.own_at h)) (by omega)).mono ?_;rintro e w' ⟨u,r,rfl,hr,hm,_,ho,_,hb⟩;refine ⟨u,rfl,?_,hb⟩;have:r=wM ks:=vF wX (zPw hr) (tC ks).1 fun z=>(hm z).trans ((tC ks).2 z).symm
 rw [<-this];exact ho
section
variable {w w':World}
structure yG {α:Type} (K:zC α) (N:Nat) (W:World) (v:Value) (l:List α) (w:World):Prop where
 own:K.Own N w v l
 bel:Below N W w
 base:N<=w.heap.size
theorem qK {N:Nat} {W:World} {c:Option Nat} (d:Below N W w) (b:w.grownBy w' c) (h:∀k,c=some k->N<=k) (f:N<=w.heap.size):Below N W w':=d.trans ⟨b.os,b.tape,b.output,b.size,fun k g=>b.block k (by omega) fun e=>by grind⟩
section
variable {α:Type} {K:zC α} {N:Nat} {W:World} {v:Value} {l:List α} {w:World}
theorem yG.nil (K:zC α) (b:Below N W w) (c:N<=w.heap.size):yG K N W (.slice none 0 0) [] w:=⟨zC.own_nil _ _ _,b,c⟩
theorem yG.on (h:yG K N W v l w) (b:Below w.heap.size w w'):yG K N W v l w':=⟨zC.own_on h.own b,h.bel.trans (b.mono h.base),zaU h.base b.size⟩
theorem yG.is (h:yG K N W v l w):K.Is w v l:=zC.own_is h.own
theorem yG.push {g c:Nat} {x:α} (h:yG K N W v l w) (e:w'.ownsRow N K.T K.k (.slice (some ⟨g,0,none⟩) (l.length+1) c) (l.length+1) (K.cells l++K.cells [x])) (b:w.grownBy w' v.ownBlock):yG K N W (.slice (some ⟨g,0,none⟩) (l.length+1) c) (l++[x]) w':=⟨zC.own_snoc e rfl rfl,qK h.bel b (fun k d=>(zaW h.own k d).1) h.base,zaU h.base b.size⟩
end
theorem zHX {α:Type} (K:zC α) {w:World} {B:Nat} {x:α} {t:TypeId} {c:Nat × Nat} (h:w.heap[B]? = some (.cells (K.enc x).toArray t c)):∀j u,(K.cells [x])[j]? = some u->w.cell? ((⟨B,0,none⟩:Addr).add j)=some u:=fun j u b=>by
 rw [K.cells_one] at b
 grind [World.news_of_block]
section
variable {P:Program} {α:Type} {w:World} {ops:Array Oper} {rest:List Oper} {o:Oper} {a:Act} {Q:Exit→Act→World→Prop}
theorem xG (K:zC α) (f:o.guard=none) (s x:Operand) (t:TypeId) (n:o.op=.call { callee:=.builtin .append,args:=#[s,x],argTypes:=#[t,t] })
  (i:TypeInfo) (z:Value) (bytes:Nat) (ht:P.underlying t=some (.slice K.T)) (hi:P.info? K.T=some i) (hz:i.zero=some z) (hsize:i.size=K.k) (hby:i.bytes=bytes) (hzs:z.cells.size=K.k)
  (N:Nat) (W:World) (v:Value) (l:List α) (hs:a.eval s=v) (hst:yG K N W v l w) (y:α) (B m c:Nat) (hm:m=1) (hx:a.eval x=.slice (some ⟨B,0,none⟩) m c) (te:TypeId) (fz:Nat × Nat) (hB:w.heap[B]? = some (.cells (K.enc y).toArray te fz))
  (hlen:l.length+1<=maxLen) (hbytes:(l.length+1) * bytes<=140737488355328)
  (h:∀g b w',yG K N W (.slice (some ⟨g,0,none⟩) (l.length+1) b) (l++[y]) w'->w.grownBy w' v.ownBlock->(v.ownBlock=some g∨g=w.heap.size)->wpList P ops Q rest (a.put o.dst (.slice (some ⟨g,0,none⟩) (l.length+1) b)) w'):wpList P ops Q (o::rest) a w:=by
 subst hm;refine wpList_append_lies _ f s x t n N K.T i z K.k bytes ht hi hz hsize hby hzs K.pos v l.length (K.cells l) hs hst.own ⟨B,0,none⟩ 1 c (K.cells [y]) hx ?_ (zHX K hB) (K.cells_ones _) (by decide) hlen hbytes hst.base _ rfl ?_
 ·rw [K.cells_len];rfl
 exact fun g b w' e d j _=>h g b w' (hst.push e d) d j
theorem zEE {e:Act->World->Prop} {E:Prop} (K:zC α) (j:o.guard=none) (s x:Operand) (t:TypeId) (p:o.op=.call { callee:=.builtin .append,args:=#[s,x],argTypes:=#[t,t] })
  (i:TypeInfo) (z:Value) (bytes:Nat) (ht:P.underlying t=some (.slice K.T)) (hi:P.info? K.T=some i) (hz:i.zero=some z) (hsize:i.size=K.k) (hby:i.bytes=bytes) (hzs:z.cells.size=K.k)
  (N:Nat) (W:World) (v:Value) (l:List α) (hs:a.eval s=v) (hst:yG K N W v l w) (y:α) (B m c:Nat) (hm:m=1) (hx:a.eval x=.slice (some ⟨B,0,none⟩) m c) (te:TypeId) (fz:Nat × Nat) (hB:w.heap[B]? = some (.cells (K.enc y).toArray te fz))
  (hlen:l.length+1<=maxLen) (hbytes:(l.length+1) * bytes<=140737488355328)
  (h:∀g b w',yG K N W (.slice (some ⟨g,0,none⟩) (l.length+1) b) (l++[y]) w'->w.grownBy w' v.ownBlock->(v.ownBlock=some g∨g=w.heap.size)->e (a.put o.dst (.slice (some ⟨g,0,none⟩) (l.length+1) b)) w'):if Region.wanted o (yielded ops a.tmps)=true then Oper.wp P o a w e Q else E:=by
 subst hm;refine step_append_lies _ j s x t p N K.T i z K.k bytes ht hi hz hsize hby hzs K.pos v l.length (K.cells l) hs hst.own ⟨B,0,none⟩ 1 c (K.cells [y]) hx ?_ (zHX K hB) (K.cells_ones _) (by decide) hlen hbytes hst.base _ rfl ?_
 ·rw [K.cells_len];rfl
 exact fun g b w' f d n _=>h g b w' (hst.push f d) d n
end
end
section
variable {s p:ByteArray} {i:Nat}
def pO (s:ByteArray):ByteArray:=if 0<=Lib.indexByte s.data.toList 124 then s.extract 0 (Lib.indexByte s.data.toList 124).toNat else ⟨#[]⟩
def vI (s:ByteArray):ByteArray:=if 0<=Lib.indexByte s.data.toList 124 then s.extract ((Lib.indexByte s.data.toList 124).toNat+1) s.size else s
def nV (p t:ByteArray):Bool:=if 0<=Lib.indexByte p.data.toList 124 then ((pO p).toList==(pO t).toList)&&((vI p).toList==(vI t).toList||(vI p).toList.isEmpty)
 else p.toList==(vI t).toList
theorem zO0 (h:Lib.indexByte s.data.toList 124=-1):pO s=⟨#[]⟩/\vI s=s:=by grind [pO,vI]
theorem zJm (h:Lib.indexByte s.data.toList 124=(i:Int)):pO s=s.extract 0 i/\vI s=s.extract (i+1) s.size:=by grind [pO,vI]
theorem zGT (t:ByteArray) (h:Lib.indexByte p.data.toList 124=-1):nV p t=(p.toList==(vI t).toList):=by grind [nV]
theorem zIF (t:ByteArray) (h:Lib.indexByte p.data.toList 124=(i:Int)):nV p t=(((pO p).toList==(pO t).toList)&&((vI p).toList==(vI t).toList||(vI p).toList.isEmpty)):=by simp_all [nV]
theorem zNI (s:ByteArray) (w:World) (c:Lib.indexByte s.data.toList 124=-1):CC 280 #[.string s] w fun e a=>e=.returned (.tuple #[.string ⟨#[]⟩,.string s])/\a=w:=by
 have b:Hid (Lib.indexByte s.L 124=-1):=c;go_enter func280,ntmps280;go_wp2_with (go_at_call 302;refine (zR1 _ _ _ b.o).mono ?_;rintro e a ⟨rfl,rfl⟩)
 go_ret2
 exact ⟨rfl,rfl⟩
theorem zKx (s:ByteArray) (w:World) (i:Nat) (c:Lib.indexByte s.data.toList 124=(i:Int)) (hi:i<s.size) (hs:s.size<=maxLen):CC 280 #[.string s] w fun e b=>e=.returned (.tuple #[.string (s.extract 0 i),.string (s.extract (i+1) s.size)])/\∃n,b=w.drewN n:=by
 have a:Hid (Lib.indexByte s.L 124=(i:Int)/\i<s.size/\s.size<=maxLen):=⟨c,hi,hs⟩;go_enter func280,ntmps280;go_wp2_with (go_at_call 302;refine (zQX _ _ _ i a.o.1 a.o.2.1 a.o.2.2).mono ?_;rintro e b ⟨rfl,n,rfl⟩)
 go_ret2
 exact ⟨rfl,n,rfl⟩
theorem zAt (s:ByteArray) (w:World) (hs:s.size<=maxLen):CC 280 #[.string s] w fun e d=>e=.returned (.tuple #[.string (pO s),.string (vI s)])/\∃n,d=w.drewN n:=by
 rcases zH8 s.L 124 with ⟨c,_⟩|⟨i,c,f,_,_⟩
 ·rw [(zO0 c).1,(zO0 c).2];exact (zNI s w c).mono fun e d ⟨a,b⟩=>⟨a,0,by rw [b];rfl⟩
 rw [(zJm c).1,(zJm c).2]
 simp_all [zKx]
theorem zMH (p t:ByteArray) (w:World) (hp:p.size<=maxLen) (ht:t.size<=maxLen):CC 239 #[.string p,.string t] w fun e w'=>e=.returned (.bool (nV p t))/\∃n,w'=w.drewN n:=by
 have HS:Hid (p.size<=maxLen/\t.size<=maxLen):=⟨hp,ht⟩
 rcases zH8 p.L 124 with ⟨h1,_⟩|⟨i,h1,_,_,_⟩
 ·have HB:=hid (zGT t h1);have hd:decide (0<=Lib.indexByte p.L 124)=false:=by rw [h1];rfl
  go_enter func239,ntmps239
  go_wp2_with (first|(go_at_call 280;refine (zAt _ _ HS.o.2).mono ?_;rintro e w' ⟨rfl,n,rfl⟩)|(go_at_call 281;refine (Tryz.strings_Contains_one _ _ _).mono ?_;rintro e w' ⟨rfl,rfl⟩))
  go_ret;exact ⟨zH (HB.o).symm,n,rfl⟩
 have HB:=hid (zIF t h1);have hd:decide (0<=Lib.indexByte p.L 124)=true:=by rw [h1];simp
 go_enter func239,ntmps239
 go_wp2_with fail
 refine (zAt _ _ HS.o.2).mono ?_;rintro e w' ⟨rfl,n,rfl⟩;go_wp2_with (go_at_call 281;refine (Tryz.strings_Contains_one _ _ _).mono ?_;rintro e w' ⟨rfl,rfl⟩);refine (zAt _ _ HS.o.1).mono ?_;rintro e w' ⟨rfl,m,rfl⟩
 cases e1:((pO p).toList==(pO t).toList)
 ·go_wp2_with fail
  go_ret;exact ⟨zH (by rw [HB.o,e1];rfl),_,rfl⟩
 cases e2:((vI p).toList==(vI t).toList)
 ·go_wp2_with fail
  go_ret;exact ⟨zH (by rw [HB.o,e1,e2];rfl),_,rfl⟩
 go_wp2_with fail
 go_ret;exact ⟨zH (by rw [HB.o,e1,e2];rfl),_,rfl⟩
end
def fU (s t:ByteArray):Bool:=decide (t.size<=s.size)&&((s.extract 0 t.size).toList==t.toList)
def zAv (x:Tm) (ts:List ByteArray):Bool:=if x.2.1=1 then ts.any (nV x.2.2) else if x.2.1=2 then !ts.any (nV x.2.2) else if x.2.1=3 then ts.any (fun t=>fU t x.2.2) else
 if x.2.1=4 then ts.any (fun t=>ltB t x.2.2) else if x.2.1=5 then ts.any (fun t=>ltB x.2.2 t) else if x.2.1=6 then decide (0<ts.length) else if x.2.1=7 then decide (ts.length=0) else false
def mT (x:Tm) (fs:List Fld):Bool:=zAv x (sD fs x.1)
def zR (p:List Tm) (fs:List Fld):Bool:=p.all fun x=>mT x fs
theorem zRL (t x:ByteArray):(!ltB t x && !(t.toList==x.toList))=ltB x t:=by grind [zBD,zK5,tN]
section
variable {W W' w:World} {b off:Nat}
abbrev Rg:=ByteArray × List Tm
abbrev Mk:=List Ky × List Rg
structure Ch where
 key:Ky
 wl:Bool
 was:List Fld
 il:Bool
 is:List Fld
def wZ (l:List Rg) (r:Rg):List Rg:=if l.any (fun x=>decide (x=r))=true then l else l++[r]
def kA (m:Mk) (k:Ky):Mk:=(qJ yR k (wM m.1),m.2)
def sU (m:Mk) (r:Rg):Mk:=(m.1,wZ m.2 r)
def zC3 (a b:Mk):Mk:=(b.1.foldl (fun acc k=>qJ yR k acc) (wM a.1),b.2.foldl wZ (a.2.foldl wZ []))
def uX (r:Rg) (c:Ch):Bool:=decide (r.1=c.key.1)&&((c.wl&&zR r.2 c.was)||(c.il&&zR r.2 c.is))
def zD5 (m:Mk) (c:Ch):Bool:=m.1.any (fun k=>decide (k=c.key))||m.2.any (fun r=>uX r c)
def xD (m:Mk) (l:List Ch):Bool:=l.any (zD5 m)
theorem zLz (b:List Rg):∀(a:List Rg),(b.foldl wZ a).length<=a.length+b.length:=by
 induction b with
 | nil=>intro a;simp
 | cons r b ih=>grind [wZ]
structure Rx where
 typ:ByteArray
 p:Option Addr
 cap:Nat
 tm:List Tm
 deriving Inhabited
def Rx.sl (x:Rx):Value:=.slice x.p x.tm.length x.cap
def Rx.rg (x:Rx):Rg:=(x.typ,x.tm)
def yQ (x:Rx):List Value:=[.string x.typ,x.sl]
def KRx:zC Rx:=⟨124,2,yQ,fun _=>rfl,by decide,fun x u hu=>by simp [yQ,Rx.sl] at hu;rcases hu with rfl|rfl<;>rfl⟩
def zBh (p:List Tm):Prop:=qZ p/\p.length * 40<=140737488355328
def Rx.at (W:World) (x:Rx):Prop:=KM.Is W x.sl x.tm/\zBh x.tm
theorem Rx.at.on {x:Rx} (h:x.at W) (a:Below W.heap.size W W'):x.at W':=⟨zC.is_kept h.1 a,h.2⟩
theorem zEm {d:List Rx} (h:KRx.At w b off d) (i:Nat) (hi:i<d.length):w.cell? ⟨b,off+i * 2,none⟩=some (.string (d[i]).typ)/\w.cell? ⟨b,off+i * 2+1,none⟩=some (d[i]).sl:=⟨h i hi 0 _ rfl,h i hi 1 _ rfl⟩
structure Mx where
 kp:Option Addr
 kc:Nat
 ks:List Ky
 rp:Option Addr
 rc:Nat
 rs:List Rx
 deriving Inhabited
def Mx.ksl (m:Mx):Value:=.slice m.kp m.ks.length m.kc
def Mx.rsl (m:Mx):Value:=.slice m.rp m.rs.length m.rc
def Mx.mk' (m:Mx):Mk:=(m.ks,m.rs.map Rx.rg)
def xE (m:Mx):List Value:=[m.ksl,m.rsl]
structure MIn (W:World) (m:Mx):Prop where
 keys:KK.Is W m.ksl m.ks
 rows:KRx.Is W m.rsl m.rs
 each:∀r∈m.rs,r.at W
theorem MIn.on {m:Mx} (h:MIn W m) (a:Below W.heap.size W W'):MIn W' m:=⟨zC.is_kept h.keys a,zC.is_kept h.rows a,fun r c=>(h.each r c).on a⟩
structure Cx where
 a:ByteArray
 b:ByteArray
 wl:Bool
 wp:Option Addr
 wc:Nat
 wo:List Fx
 il:Bool
 ip:Option Addr
 ic:Nat
 io:List Fx
 deriving Inhabited
def Cx.ch (x:Cx):Ch:=⟨(x.a,x.b),x.wl,x.wo.map Fx.fld,x.il,x.io.map Fx.fld⟩
def xW (x:Cx):List Value:=[.string x.a,.string x.b,.bool x.wl,.slice x.wp x.wo.length x.wc,.bool x.il,.slice x.ip x.io.length x.ic]
def KCx:zC Cx:=⟨67,6,xW,fun _=>rfl,by decide,fun x u hu=>by simp [xW] at hu;rcases hu with rfl|rfl|rfl|rfl|rfl|rfl<;>rfl⟩
structure CIn (W:World) (x:Cx):Prop where
 was:wH W (.slice x.wp x.wo.length x.wc) x.wo
 wfit:yW x.wo
 is:wH W (.slice x.ip x.io.length x.ic) x.io
 ifit:yW x.io
 wcp:xO x.wo
 icp:xO x.io
theorem CIn.on {x:Cx} (h:CIn W x) (a:Below W.heap.size W W'):CIn W' x:=⟨h.was.kept a,h.wfit,h.is.kept a,h.ifit,h.wcp,h.icp⟩
theorem zJM {d:List Cx} (h:KCx.At w b off d) (i:Nat) (hi:i<d.length):w.cell? ⟨b,off+i * 6,none⟩=some (.string (d[i]).a)/\w.cell? ⟨b,off+i * 6+1,none⟩=some (.string (d[i]).b)/\w.cell? ⟨b,off+i * 6+2,none⟩=some (.bool (d[i]).wl)/\w.cell? ⟨b,off+i * 6+3,none⟩=some (.slice (d[i]).wp (d[i]).wo.length (d[i]).wc)/\w.cell? ⟨b,off+i * 6+4,none⟩=some (.bool (d[i]).il)/\w.cell? ⟨b,off+i * 6+5,none⟩=some (.slice (d[i]).ip (d[i]).io.length (d[i]).ic):=⟨h i hi 0 _ rfl,h i hi 1 _ rfl,h i hi 2 _ rfl,h i hi 3 _ rfl,h i hi 4 _ rfl,h i hi 5 _ rfl⟩
end
namespace Z
attribute [local go_sem ↓] Go.wp_at_zero Go.wp_at_succ
end Z
theorem vP (w:World) (a d:Array Value) (b c:TypeId):Below w.heap.size w ((w.alloc (.cells a b)).alloc (.cells d c))/\((w.alloc (.cells a b)).alloc (.cells d c)).heap[w.heap.size]? = some (.cells a b (0,0))/\((w.alloc (.cells a b)).alloc (.cells d c)).heap[w.heap.size+1]? = some (.cells d c (0,0))/\((w.alloc (.cells a b)).alloc (.cells d c)).heap.size=w.heap.size+2:=by
 have g:Bw w (w.alloc (.cells a b)):=zaQ;have i:(w.alloc (.cells a b)).heap.size=w.heap.size+1:=by simp
 have e:Below (w.alloc (.cells a b)).heap.size (w.alloc (.cells a b)) ((w.alloc (.cells a b)).alloc (.cells d c)):=zaQ;have h:(w.alloc (.cells a b)).heap[w.heap.size]? = some (oc a b):=xab w _;have f:((w.alloc (.cells a b)).alloc (.cells d c)).heap[(w.alloc (.cells a b)).heap.size]? = some (oc d c):=xab _ _;rw [i] at f;exact ⟨zA g g.size e,(e.block _ (by omega)).trans h,f,by simp⟩
def bQ (W:World) (l:List Ky) (e:Ending) (w':World):Prop:=∃u,e=.returned u/\KK.Own W.heap.size w' u l/\Below W.heap.size W w'
def zSG (m:Mx):Prop:=m.ks.length<1500000000000/\m.rs.length<1500000000000
def zPa (m:Mx):Prop:=m.ks.length<4500000000000/\m.rs.length<4500000000000
def zN3 (m:Mx):Prop:=m.ks.length<=4398046511000/\m.rs.length<=3518437208800
theorem tV (w:World) (c:Array Value) (t:TypeId):Below w.heap.size w (w.alloc (.cells c t))/\(w.alloc (.cells c t)).heap[w.heap.size]? = some (.cells c t (0,0))/\(w.alloc (.cells c t)).heap.size=w.heap.size+1:=⟨zaQ,xab w _,by simp⟩
theorem wC {α:Type} {K:zC α} {N:Nat} {w:World} {v:Value} {d:List α} (h:K.Own N w v d) {b:Nat} (c:b<N) (j:Nat) (x:Value):K.Own N (w.setCell ⟨b,j,none⟩ x) v d:=Fr.row (P:=fun k=>k=b) (Fr.of_grown (xS w b j x) fun k a=>by grind) (show w.ownsRow N K.T K.k v d.length (K.cells d) from h) fun k a e=>by
  have:=(zaW (show w.ownsRow N K.T K.k v d.length (K.cells d) from h) k a).1;omega
theorem zBe (w:World) (d e a:Array Value) (f c b:TypeId) (V:World) (m:((w.alloc (.cells d f)).alloc (.cells e c)).alloc (.cells a b)=V):Below w.heap.size w V/\V.heap[w.heap.size]? = some (.cells d f (0,0))/\V.heap[w.heap.size+1]? = some (.cells e c (0,0))/\V.heap[w.heap.size+2]? = some (.cells a b (0,0))/\V.heap.size=w.heap.size+3:=by
 obtain ⟨h,k,l,j⟩:=vP w d e f c
 generalize (w.alloc (.cells d f)).alloc (.cells e c)=U at *
 subst m;have g:Bw U (U.alloc (.cells a b)):=zaQ;have i:(U.alloc (.cells a b)).heap[U.heap.size]? = some (oc a b):=xab U _;rw [j] at i;exact ⟨zA h h.size g,(g.block _ (by omega)).trans k,(g.block _ (by omega)).trans l,i,by simp;omega⟩
section
variable {N:Nat} {W W':World} {m:Mx}
def zCQ (l:List Rx):Prop:=l.Pairwise fun x y=>∀k,x.sl.ownBlock=some k->¬ y.sl.ownBlock=some k
structure jE (N:Nat) (W:World) (m:Mx):Prop where
 keys:KK.Own N W m.ksl m.ks
 rows:KRx.Own N W m.rsl m.rs
 each:∀r∈m.rs,KM.Own N W r.sl r.tm/\zBh r.tm
 apart:zCQ m.rs
theorem jE.inn (h:jE N W m):MIn W m:=⟨zC.own_is h.keys,zC.own_is h.rows,fun r a=>⟨zC.own_is (h.each r a).1,(h.each r a).2⟩⟩
theorem jE.fr {P:Nat->Prop} (h:jE N W m) (f:Fr P W W') (e:∀k,P k->k<N):jE N W' m:=by
 refine ⟨f.row (show W.ownsRow N KK.T KK.k m.ksl m.ks.length (KK.cells m.ks) from h.keys) fun k a c=>?_,f.row (show W.ownsRow N KRx.T KRx.k m.rsl m.rs.length (KRx.cells m.rs) from h.rows) fun k a c=>?_,fun r b=>⟨f.row (show W.ownsRow N KM.T KM.k r.sl r.tm.length (KM.cells r.tm) from (h.each r b).1) fun k a c=>?_,(h.each r b).2⟩,h.apart⟩
 ·have d:=(zaW (show W.ownsRow N KK.T KK.k m.ksl m.ks.length (KK.cells m.ks) from h.keys) k a).1
  grind
 ·have d:=(zaW (show W.ownsRow N KRx.T KRx.k m.rsl m.rs.length (KRx.cells m.rs) from h.rows) k a).1
  grind
 have d:=(zaW (show W.ownsRow N KM.T KM.k r.sl r.tm.length (KM.cells r.tm) from (h.each r b).1) k a).1
 grind
def mC (W:World) (mk:Mk) (e:Ending) (w':World):Prop:=∃m,e=.returned (.agg (xE m).toArray)/\jE W.heap.size w' m/\m.mk'=mk/\Below W.heap.size W w'
def zAA (W:World) (b:Bool) (e:Ending) (w':World):Prop:=e=.returned (.bool b)/\Below W.heap.size W w'
structure dX (W:World) (v:Value) (l:List Cx):Prop where
 is:KCx.Is W v l
 each:∀c∈l,CIn W c
theorem dX.on {v:Value} {l:List Cx} (h:dX W v l) (a:Below W.heap.size W W'):dX W' v l:=⟨zC.is_kept h.is a,fun c b=>(h.each c b).on a⟩
def yE (k:Ky):Prop:=k.1.size<=maxLen/\k.2.size<=maxLen
end
section
variable {n0 p k:Nat} {W:World} {m:Mk} {B:Nat→Prop} {c:Nat→Nat}
def kN (m:Mx) (k:Nat):Prop:=m.ksl.ownBlock=some k∨m.rsl.ownBlock=some k∨∃r∈m.rs,r.sl.ownBlock=some k
structure RMk (n0:Nat) (W:World) (m:Mx):Prop where
 keys:KK.Own n0 W m.ksl m.ks
 rows:KRx.Own n0 W m.rsl m.rs
 each:∀r∈m.rs,KM.Own n0 W r.sl r.tm/\zBh r.tm
theorem RMk.inn {m:Mx} (h:RMk n0 W m):MIn W m:=⟨zC.own_is h.keys,zC.own_is h.rows,fun r a=>⟨zC.own_is (h.each r a).1,(h.each r a).2⟩⟩
theorem RMk.fr {e:World} {m:Mx} {P:Nat->Prop} (h:RMk n0 W m) (f:Fr P W e) (b:∀k,kN m k->¬ P k):RMk n0 e m:=⟨f.row (show W.ownsRow n0 KK.T KK.k m.ksl m.ks.length (KK.cells m.ks) from h.keys) fun k a=>b k (xac a),f.row (show W.ownsRow n0 KRx.T KRx.k m.rsl m.rs.length (KRx.cells m.rs) from h.rows) fun k a=>b k (xaf (xac a)),
  fun r d=>⟨f.row (show W.ownsRow n0 KM.T KM.k r.sl r.tm.length (KM.cells r.tm) from (h.each r d).1) fun k a=>b k (xaf (xaf ⟨r,d,a⟩)),(h.each r d).2⟩⟩
theorem RMk.blk {m:Mx} (h:RMk n0 W m) (k:Nat) (a:kN m k):n0<=k/\k<W.heap.size:=by
 rcases a with a|a|⟨r,b,a⟩
 ·exact zaW (show W.ownsRow n0 KK.T KK.k m.ksl m.ks.length (KK.cells m.ks) from h.keys) k a
 ·exact zaW (show W.ownsRow n0 KRx.T KRx.k m.rsl m.rs.length (KRx.cells m.rs) from h.rows) k a
 exact zaW (show W.ownsRow n0 KM.T KM.k r.sl r.tm.length (KM.cells r.tm) from (h.each r b).1) k a
theorem zQR (n0:Nat) (W:World):RMk n0 W ⟨none,0,[],none,0,[]⟩:=⟨zC.own_nil _ _ _,zC.own_nil _ _ _,fun r a=>by cases a⟩
noncomputable def lab (W:World) (B:Nat->Prop) (c:Nat->Nat) (p:Nat) (k:Nat):Nat:=if k<W.heap.size then c k else @ite _ (B k) (Classical.propDecidable _) p 0
theorem wK (h:k<W.heap.size):lab W B c p k=c k:=xae h
theorem zBw (h:W.heap.size<=k) (a:B k):lab W B c p k=p:=by grind [lab]
theorem zAU (h:W.heap.size<=k) (a:¬ B k):lab W B c p k=0:=by grind [lab]
theorem zMf (h:(k<W.heap.size/\c k=p)∨W.heap.size<=k) (a:B k):lab W B c p k=p:=by grind [wK,zBw]
theorem bJ {α:Type} [DecidableEq α] (a:α->α->Bool) (x:α):∀l:List α,(qJ a x l).length<=l.length+1
 | []=>by simp [qJ]
 | y::r=>by
  have:=bJ a x r
  grind [qJ]
theorem zIj (l:List Ky):∀a:List Ky,(l.foldl (fun a k=>qJ yR k a) a).length<=a.length+l.length:=by
 induction l with
 | nil=>grind
 | cons k l ih=>grind [bJ]
theorem zMo (m:Mk) (k:Ky):(kA m k).1.length<=m.1.length+1:=by
 have d:=bJ yR k (wM m.1);have a:=zIj m.1 [];have e:wM m.1=m.1.foldl (fun b k=>qJ yR k b) []:=rfl;rw [<-e] at a;show (qJ yR k (wM m.1)).length<=_
 grind
theorem zJ8 (z:Ky) (l:List Ky):∀a:List Ky,z∈l.foldl (fun a k=>qJ yR k a) a->z∈a∨z∈l:=by
 induction l with
 | nil=>grind
 | cons k l ih=>grind [mF]
theorem zOl {k z:Ky} (h:z∈(kA m k).1):z=k∨z∈m.1:=by
 rcases (mF yR k z (wM m.1)).1 h with q|q
 ·grind
 rcases zJ8 z m.1 [] q with q|q<;>grind
theorem zIg (m:Mk) (r:Rg):(sU m r).2.length<=m.2.length+1:=by
 show (wZ m.2 r).length<=_
 grind [wZ]
def bV (m:Mk):Prop:=yU yR m.1/\m.2.Nodup/\∀r∈m.2,r.2.length<=8
theorem zPq:bV ([],[]):=⟨xan,List.nodup_nil,fun _ h=>by cases h⟩
theorem zQT (h:bV m) (k:Ky):bV (kA m k):=⟨qI wX k (tC m.1).1,h.2⟩
theorem zHP {l:List Rg} {r:Rg} (h:r ∉ l):wZ l r=l++[r]:=by grind [wZ]
theorem zLE (h:bV m) (r:Rg) (f:r.2.length<=8):bV (sU m r):=by
 refine ⟨h.1,?_⟩;show (wZ m.2 r).Nodup/\∀x∈wZ m.2 r,x.2.length<=8
 by_cases hr:r∈m.2
 ·unfold wZ;rw [xae (List.any_eq_true.2 ⟨r,hr,xas rfl⟩)];exact h.2
 rw [zHP hr];rw [List.nodup_append];refine ⟨⟨h.2.1,by simp,fun a g b i e=>by grind⟩,fun x d=>?_⟩
 rcases List.mem_append.1 d with d|d
 ·exact h.2.2 x d
 grind
theorem zFs:∀(l a:List Rg),(a++l).Nodup->l.foldl wZ a=a++l
 | [],a,_=>by simp
 | r::l,a,h=>by
  have b:r ∉ a:=fun d=>by grind
  show l.foldl wZ (wZ a r)=_
  rw [zHP b,zFs l (a++[r]) (by grind),List.append_assoc];rfl
theorem zLu (h:bV m):zC3 m ([],[])=m:=by
 have b:wM m.1=m.1:=vF wX (tC m.1).1 h.1 fun z=>(tC m.1).2 z
 have a:=zFs m.2 [] (by simpa using h.2.1);show (wM m.1,m.2.foldl wZ [])=m
 grind
end
abbrev zQ:=Ky × List Vr
def ofD:List zQ->Ky->List Vr
 | [],_=>[]
 | r::d,k=>if r.1=k then r.2 else ofD d k
def sL (k:Ky) (l:List Vr):List zQ->List zQ
 | []=>[(k,l)]
 | r::d=>if yR k r.1 then (k,l)::r::d else if r.1=k then (k,l)::d else r::sL k l d
def wB (d:List zQ) (f:Int):List zQ:=d.map fun r=>(r.1,wV r.2 f)
def tL (d:List zQ) (f:Int):Nat:=(d.map fun r=>vH r.2 f).sum
def zT (d:List zQ):Nat:=(d.map fun r=>r.2.length).sum
def sB (d:List zQ) (typ:ByteArray):List Ky:=(d.map Prod.fst).filter fun k=>decide (k.1=typ)
def tU (t:Int) (r:zQ):Option (Ky × Vr):=(atV r.2 t).bind fun v=>if v.live then some (r.1,v) else none
def pM (d:List zQ) (t:Int):List (Ky × Vr):=d.filterMap (tU t)
def xK (d:List zQ) (typ:ByteArray) (t:Int) (P:List (ByteArray × List ByteArray)->Bool):List (Ky × Vr):=(pM d t).filter fun x=>decide (x.1.1=typ)&&P x.2.val
def wN (d:List zQ) (typ:ByteArray) (t:Int):List (Ky × Vr):=(d.filter fun r=>decide (r.1.1=typ)).flatMap fun r=>(vK r.2 t).map fun v=>(r.1,v)
def qR (x:Ky × Vr):List (Ky × Vr)->List (Ky × Vr)
 | []=>[x]
 | y::l=>if y.2.stamp<=x.2.stamp then y::qR x l else x::y::l
def zPz (l:List (Ky × Vr)):List (Ky × Vr):=l.foldl (fun a x=>qR x a) []
def zRE (d:List zQ) (typ:ByteArray) (t:Int):List (Ky × Vr):=zPz (wN d typ t)
structure OkD (d:List zQ):Prop where
 rise:yU yR (d.map Prod.fst)
 ok:∀r∈d,OkV r.2/\r.2≠[]
theorem zKJ:OkD []:=⟨xan,fun r h=>by cases h⟩
theorem OkD.tail {r:zQ} {d:List zQ} (h:OkD (r::d)):OkD d:=⟨(List.pairwise_cons.1 h.rise).2,fun x a=>h.ok x (xay _ a)⟩
theorem jM {d:List zQ} (h:OkD d) {r:zQ} (b:r∈d):ofD d r.1=r.2:=by
 induction d with
 | nil=>cases b
 | cons x d ih =>
 unfold ofD
 rcases List.mem_cons.1 b with rfl|c
 ·rw [xae rfl]
 have f:=(List.pairwise_cons.1 h.rise).1 r.1 (xaI c);rw [xag,ih h.tail c];intro e;have a:yR x.1 r.1=true:=f;rw [e,wX.irr] at a
 cases a
theorem zNh {d:List zQ} {k:Ky} (h:k ∉ d.map Prod.fst):ofD d k=[]:=by
 induction d with
 | nil=>rfl
 | cons x d ih=>grind [ofD]
theorem zJE (d:List zQ) (k:Ky):(k ∉ d.map Prod.fst/\ofD d k=[])∨(k,ofD d k)∈d:=by
 induction d with
 | nil=>exact xac ⟨by simp,rfl⟩
 | cons x d ih=>grind [ofD]
theorem pW {d:List zQ} (h:OkD d) (k:Ky):OkV (ofD d k):=by
 rcases zJE d k with ⟨_,e⟩|a
 ·rw [e];exact zOJ
 exact (h.ok _ a).1
theorem wI {d:List zQ} (h:OkD d) (k:Ky):k∈d.map Prod.fst↔ofD d k≠[]:=by
 rcases zJE d k with ⟨b,e⟩|a
 ·grind
 exact ⟨fun _=>(h.ok _ a).2,fun _=>xaI a⟩
theorem zKQ {k a:Ky} (l:List Vr) (b:a≠k):∀d:List zQ,ofD (sL k l d) a=ofD d a
 | []=>by grind [sL,ofD]
 | r::d=>by
  unfold sL
  split
  ·rw [ofD,xag (fun e=>b e.symm)]
  split
  ·grind [ofD]
  rw [ofD,ofD,zKQ l b d]
theorem zDr (k:Ky) (l:List Vr):∀d:List zQ,ofD (sL k l d) k=l
 | []=>by grind [sL,ofD]
 | r::d=>by
  unfold sL
  split
  ·rw [ofD,xae rfl]
  split
  ·rw [ofD,xae rfl]
  next h=>rw [ofD,xag h,zDr k l d]
theorem dB (k a:Ky) (l:List Vr) (d:List zQ):ofD (sL k l d) a=if a=k then l else ofD d a:=by
 by_cases h:a=k
 ·rw [xae h,h,zDr]
 rw [xag h,zKQ l h]
theorem zBE (k:Ky) (l:List Vr):∀d:List zQ,(sL k l d).map Prod.fst=qJ yR k (d.map Prod.fst)
 | []=>rfl
 | r::d=>by
  unfold sL;rw [xaZ,qJ]
  split
  ·rfl
  split
  ·grind
  next h=>rw [xag (fun e=>h e.symm),xaZ,zBE k l d]
theorem zFh {k:Ky} {l:List Vr} {x:zQ}:∀{d:List zQ},x∈sL k l d->x=(k,l)∨x∈d
 | [],h=>by grind [sL]
 | r::d,h=>by
  unfold sL at h
  split at h
  ·grind
  split at h
  ·grind
  rcases List.mem_cons.1 h with h|h
  ·grind
  rcases zFh h with h|h
  ·grind
  grind
theorem zKB {d:List zQ} (h:OkD d) (k:Ky) {l:List Vr} (c:OkV l) (b:l≠[]):OkD (sL k l d):=by
 refine ⟨?_,fun r a=>?_⟩
 ·rw [zBE];exact qI wX k h.rise
 rcases zFh a with rfl|a
 ·grind
 exact h.ok r a
theorem pY (k:Ky) (l:List Vr):∀{d:List zQ},OkD d->zT (sL k l d)+(ofD d k).length=zT d+l.length
 | [],_=>by simp [sL,zT,ofD]
 | r::d,h=>by
  have b:=h.rise;rw [xaZ] at b;unfold sL
  split
  ·next hlt =>
   have:ofD (r::d) k=[]:=zNh fun a=>by
    rw [xaZ,List.mem_cons] at a
    rcases a with e|a
    ·rw [e,wX.irr] at hlt;cases hlt
    have:=wX.tr _ _ _ hlt ((List.pairwise_cons.1 b).1 k a);rw [wX.irr] at this;cases this
   grind [zT]
  split
  ·grind [ofD,zT]
  next e =>
  rw [ofD,xag e];have:=pY k l h.tail
  grind [zT]
theorem kF (d:List zQ) (f:Int):(wB d f).map Prod.fst=d.map Prod.fst:=by
 unfold wB;rw [xbW];rfl
theorem zHM {l:List Vr} (h:l≠[]) (f:Int):wV l f≠[]:=by grind [vH,fZ,wP,List.length_eq_zero_iff]
theorem zEX {d:List zQ} (h:OkD d) (f:Int):OkD (wB d f):=by
 refine ⟨by rw [kF];exact h.rise,fun r b=>?_⟩;unfold wB at b;obtain ⟨x,a,rfl⟩:=List.mem_map.1 b;exact ⟨zFl (h.ok x a).1 f,zHM (h.ok x a).2 f⟩
theorem sY (d:List zQ) (f:Int) (k:Ky):ofD (wB d f) k=wV (ofD d k) f:=by
 induction d with
 | nil=>simp [wB,ofD,wV]
 | cons x d ih=>grind [wB,ofD]
theorem jQ (d:List zQ) (f:Int):zT (wB d f)+tL d f=zT d:=by
 induction d with
 | nil=>rfl
 | cons x d ih=>grind [zT,tL,wB,vH,fZ,wP]
theorem zKm {d:List zQ} (h:OkD d) {t:Int} {x:Ky × Vr} (a:x∈pM d t):atV (ofD d x.1) t=some x.2/\x.2.live=true:=by
 unfold pM at a;obtain ⟨r,b,e⟩:=List.mem_filterMap.1 a
 grind [tU,atV,jM]
theorem zAm (t:Int):∀d:List zQ,((pM d t).map Prod.fst).Sublist (d.map Prod.fst)
 | []=>List.Sublist.refl _
 | r::d=>by
  unfold pM;rw [xaN]
  cases e:tU t r with
  | none=>exact (zAm t d).cons _
  | some x =>
  unfold tU at e
  cases ha:atV r.2 t with
  | none=>grind
  | some v =>
  rw [ha] at e;simp only [Option.bind_some] at e
  split at e
  ·injection e with e
   subst e;exact (zAm t d).cons_cons _
  cases e
theorem zIp {d:List zQ} (h:OkD d) (t:Int):yU yR ((pM d t).map Prod.fst):=h.rise.sublist (zAm t d)
section
variable {t s:Int} {l' l:List Vr}
def zRr (F:Int) (l' l:List Vr):Prop:=∃c,l'=l.drop c/\(c=0∨c<wG l F)
section
variable {F:Int} {l' l:List Vr}
theorem zQb (h:zRr F l' l):∃c,l'=l.drop c/\(c=0∨c<wG l F)/\(c=0∨c<l.length):=by
 obtain ⟨c,b,a⟩:=h
 grind [wP]
end
theorem zP2 (t:Int):atV [] t=none:=rfl
theorem zAq {d:List zQ} (h:OkD d) {t:Int} {x:Ky × Vr}:x∈pM d t↔atV (ofD d x.1) t=some x.2/\x.2.live=true:=by
 refine ⟨zKm h,fun ⟨h1,h2⟩=>?_⟩
 rcases zJE d x.1 with ⟨_,e⟩|a
 ·grind [zP2]
 grind [pM,tU]
theorem zGs {L:List (Ky × Vr)} {f:Ky->Option Vr} (h:∀x∈L,f x.1=some x.2):L=(L.map Prod.fst).map fun k=>(k,(f k).getD zeroV):=by
 induction L with
 | nil=>rfl
 | cons x L ih=>grind
theorem zSU {F:Int} (b:OkV l) (h:zRr F l' l) (n:Int):qB l' n=qB l n∨(∃v,qB l n=some v/\v.stamp<=F/\∃f,l'.head? = some f/\n<f.num):=by
 obtain ⟨c,rfl,a,k⟩:=zQb h
 rcases a with rfl|a
 ·grind
 have o:c<l.length:=zaT a (wP l F)
 by_cases hn:∃i,∃hi:i<l.length,(l[i]).num=n
 ·obtain ⟨i,hi,rfl⟩:=hn
  by_cases hic:i<c
  ·refine xaf ⟨l[i],zAL b i hi,tF l F i hi (by omega),(l.drop c)[0]'(by grind),?_,?_⟩
   ·rw [List.head?_eq_getElem?,xai]
   grind [gR]
  left;have:=zAL (zEj b c) (i-c) (by grind)
  grind [zAL]
 left
 have j:∀m:List Vr,(∀v∈m,v∈l)->qB m n=none:=fun m g=>by
  unfold qB;rw [List.find?_eq_none];intro v d p;obtain ⟨i,hi,e⟩:=List.mem_iff_getElem.1 (g v d)
  grind
 grind
def zKj (s:Int) (l' l:List Vr):Prop:=∃m,l'=l++m/\∀v∈m,s<v.stamp
theorem zNn (s:Int) (l:List Vr):zKj s l l:=⟨[],by simp,fun v h=>by cases h⟩
theorem zOj (h:zKj s l' l) {v:Vr} (a:s<v.stamp):zKj s (l'++[v]) l:=by
 obtain ⟨m,rfl,c⟩:=h;refine ⟨m++[v],by rw [List.append_assoc],fun x b=>?_⟩
 grind
theorem zP5 (c:pR l') (h:zKj s l' l) {t:Int} (f:t<=s):wG l' t=wG l t:=by
 obtain ⟨m,rfl,e⟩:=h;have d:pR l:=c.sublist (List.sublist_append_left l m);refine zBS c (zaU (wP l t) (by grind)) (fun i hi b=>?_) fun i hi b=>?_
 ·have a:i<l.length:=zaT b (wP l t);rw [xaY a];exact tF l t i a b
 by_cases a:i<l.length
 ·rw [xaY a];exact sV l d t i a b
 grind
theorem zR6 (b:pR l') (h:zKj s l' l) {t:Int} (a:t<=s):atV l' t=atV l t:=by
 have d:=zP5 b h a;obtain ⟨m,rfl,c⟩:=h
 grind [atV,wP]
end
def pK (l:List Vr) (n:Int):Int:=match l.head? with|some f=>if n<f.num then 8 else 6|none=>6
def uJ (l:List Vr) (snap n:Int):Option Vr × Int:=if n<1 then (none,1) else match qB l n with
  | some v=>if v.stamp<=snap then (some v,0) else (none,pK l n)
  | none=>(none,pK l n)
theorem zNV {l:List Vr} {n:Int} {v:Vr} (h:qB l n=some v):v∈l/\v.num=n:=by grind [qB]
section
def zQV {α:Type} (F:Fence) (n:Nat) (P:Program) (g:Nat) (lb:Array Value) (encs:α->Array Value) (Gd:List α->α->World->Prop) (Kp:World->World->Prop) (S Sp:List α->Prop) (w:World):Prop:=∀(l:Nat) (J Jx:List α->World->Prop) (W:World),Below w.heap.size w W->AbidesFrom W.heap.size J ->
  (∀pre x W1,J pre W1->Gd pre x W1->YieldAt F (n-1) P l (encs x) W1 fun e W' =>
   (e=.returned (.bool true)/\J (pre++[x]) W'/\Kp W1 W')∨(e=.returned (.bool false)/\Jx (pre++[x]) W')) ->
  J [] W ->
  CallsIn F n P g (#[.func (.yield l) #[] #[]]++lb) W fun e W'=>(∃v,e=.returned v)/\((∃xs,S xs/\J xs W')∨(∃pre,Sp pre/\Jx pre W'))
variable {F:Fence} {n:Nat} {P:Program}
theorem zCF {o:Obj} (h:o.isWalk=true):o.isCells=false:=by cases o<;>simp_all [Obj.isWalk,Obj.isCells]
theorem nG {α:Type} {g:Operand} {ps:Array Tmp} {assign body:Code} {Q:Exit->Act->World->Prop} {a:Act} {w:World}
  (hro:F.round=none) (h1:1<=n) {gf:Nat} {lb:Array Value} (hg:a.eval g=.func (.func gf) #[] lb) (hFg:F.fn gf) (eg:∀args w,(callFunc gf args).run P w=.ok (.enter gf args) w)
  {encs:α->Array Value} {Gd:List α->α->World->Prop} {Kp:World->World->Prop} {S Sp:List α->Prop} (hseq:zQV F (n-1) P gf lb encs Gd Kp S Sp w)
  (hKt:∀{A B C:World},Kp A B->Kp B C->Kp A C) (hKb:∀(W:World) (l:Nat) (o':Obj),w.heap.size<=l->(∃r,W.heap[l]? = some (.loop r))->Kp W (W.putObj l o')) (hps:∀x,(encs x).size=ps.size)
  (I:List α->World->Prop) (Ix:Code->List α->World->Prop) (hI:OwnFrom w.heap.size I) (hIx:∀c,OwnFrom w.heap.size (Ix c)) (h0:I [] w)
  (Ax:List α->α->Act->World->Prop) (hAx:∀pre x a',OwnFrom w.heap.size (fun (_:Unit) W=>Ax pre x a' W))
  (hassign:∀(l:Nat) (pre:List α) (x:α) (W:World) (K:Act->World->Prop),w.heap.size<W.heap.size->I pre W->Gd pre x W->(∀a' W',KeepsFrom w.heap.size W W'->Kp W W'->Ax pre x a' W'->K a' W') ->
   assign.wpIn (F.inRound l) (n-1-1) P (Exit.then K (fun _ _ _=>False)) { tmps:=(ps.zip (encs x)).foldl (fun t (p,v)=>t.setIfInBounds p v) a.tmps,defers:=[] } W)
  (hbody:∀(l:Nat) (pre:List α) (x:α) (a':Act) (W:World),w.heap.size<W.heap.size->Ax pre x a' W->body.wpIn (F.inRound l) (n-1-1) P (ownPostG w.heap.size Kp I Ix (pre++[x]) W) a' W)
  (hdone:∀(xs:List α) (W:World),S xs->I xs W->W.heap[w.heap.size]? = some (.deferred (some []))->Q .normal { a with defers:={ target:=.collected w.heap.size,args:=#[] }::a.defers } W)
  (hstop:∀(c:Code) (pre:List α) (W:World),Sp pre->Ix c pre W->W.heap[w.heap.size]? = some (.deferred (some []))->c.wpIn F n P Q { a with defers:={ target:=.collected w.heap.size,args:=#[] }::a.defers } W):(Code.rangeFunc g ps assign body).wpIn F n P Q a w:=by
 refine wpIn_rangeFunc ?_;intro fn hfn;rw [hro];obtain ⟨rec,hrec⟩:∃rec:LoopState->Option Code->Loop,rec=fun st pe=>{ state:=st,pending:=pe,fn,tmps:=a.tmps,params:=ps,assign,body,defers:=w.heap.size }:=⟨_,rfl⟩
 obtain ⟨W1,hW1⟩:=eE ((w.alloc (.deferred (some []))).alloc (.loop (rec .ready none)))
 have hL1:W1.heap[w.heap.size+1]? = some (.loop (rec .ready none)):=by
  rw [<-hW1];have:=World.alloc_heap_new (w.alloc (.deferred (some []))) (.loop (rec .ready none));rwa [xba] at this
 have hK1:W1.heap[w.heap.size]? = some (.deferred (some [])):=by
  rw [<-hW1];exact (xaG _ _ _ (by simp)).trans (World.alloc_heap_new w _)
 have hb1:Bw w W1:=by
  rw [<-hW1];exact ((zaR _ w).alloc (zaL _) _).alloc (by simp) _
 have hs1:W1.heap.size=w.heap.size+2:=by rw [<-hW1];simp
 have hI1:I [] W1:=by rw [<-hW1];exact hI.alloc _ (hI.alloc _ h0)
 refine ⟨w.heap.size+1,[{ target:=.collected w.heap.size,args:=#[] }],W1,{ target:=.fn (.func gf) lb,args:=#[.func (.yield (w.heap.size+1)) #[] #[]] },W1,gf,
  #[.func (.yield (w.heap.size+1)) #[] #[]]++lb,W1,?_,?_,?_,?_,fun _=>h1,?_⟩
 ·grind [run_enterLoop_outer]
 ·simp only [resolve,hg];simp [go_sem]
 ·grind [Target.leads]
 ·grind [invoke]
 refine (hseq (w.heap.size+1)
  (fun pre W=>I pre W/\W.heap[w.heap.size+1]? = some (.loop (rec .ready none))/\W.heap[w.heap.size]? = some (.deferred (some [])))
  (fun pre W=>∃c,Ix c pre W/\W.heap[w.heap.size+1]? = some (.loop (rec .done (some c)))/\W.heap[w.heap.size]? = some (.deferred (some [])))
  W1 hb1 ?_ ?_ ⟨hI1,hL1,hK1⟩).mono ?_
 ·rintro s W W' row ⟨hs,hl,hk⟩ hgr hrow;refine ⟨hI s W W' row hs hgr fun r e=>?_,?_,?_⟩
  ·grind [zCF]
  ·exact (hgr.block _ (gA hl).1 fun e=>by grind).trans hl
  exact (hgr.block _ (gA hk).1 fun e=>by grind).trans hk
 ·rintro pre x W ⟨hi,hl,hk⟩ hgd;have hlt:w.heap.size+1<W.heap.size:=(gA hl).1;have hy:=run_yield (P:=P) (args:=encs x) hl (by grind);rw [hrec] at hy;refine ⟨fn,_,assign,body,hy,roundIn_of_wpIn hfn (hassign _ pre x W _ (by omega) hi hgd fun a' Wa hka hkpa hax=>?_)⟩;have hla:Wa.heap[w.heap.size+1]? = some (.loop (rec .ready none)):=hka.same _ _ (by omega) hl rfl;have hkk:Wa.heap[w.heap.size]? = some (.deferred (some [])):=hka.same _ _ (zaL _) hk rfl;have hlta:w.heap.size+1<Wa.heap.size:=(gA hla).1;refine ⟨_,run_beginRound hla (by rw [hrec]),?_⟩;have hl2:(Wa.putObj (w.heap.size+1) (.loop { rec .ready none with state:=.busy })).heap[w.heap.size+1]? = some (.loop { rec .ready none with state:=.busy }):=World.putObj_heap_same hlta;have hk2:(Wa.putObj (w.heap.size+1) (.loop { rec .ready none with state:=.busy })).heap[w.heap.size]? = some (.deferred (some [])):=(xbq (by omega)).trans hkk;have hw2:Kp W (Wa.putObj (w.heap.size+1) (.loop { rec .ready none with state:=.busy })):=hKt hkpa (hKb _ _ _ (by omega) ⟨_,hla⟩);have hax2:Ax pre x a' (Wa.putObj (w.heap.size+1) (.loop { rec .ready none with state:=.busy })):=(hAx pre x a').putObj (s:=()) _ hax (by omega) hla rfl;refine wpIn_mono (hbody _ pre x a' _ (Nat.lt_of_succ_lt (gA hl2).1) hax2) ?_
  have fin:∀(jump:Option Code) (W3:World),KeepsFrom w.heap.size (Wa.putObj (w.heap.size+1) (.loop { rec .ready none with state:=.busy })) W3 ->
    (Instr.endRound (w.heap.size+1) jump).run P W3=.ok (.bool jump.isNone) (W3.putObj (w.heap.size+1) (.loop (rec (if jump.isNone then .ready else .done) jump))) /\
    (W3.putObj (w.heap.size+1) (.loop (rec (if jump.isNone then .ready else .done) jump))).heap[w.heap.size+1]? = some (.loop (rec (if jump.isNone then .ready else .done) jump)) /\
    (W3.putObj (w.heap.size+1) (.loop (rec (if jump.isNone then .ready else .done) jump))).heap[w.heap.size]? = some (.deferred (some [])) /\
    W3.heap[w.heap.size+1]? = some (.loop { rec .ready none with state:=.busy }):=fun jump W3 hk3=>by
   have hl3:=hk3.same _ _ (by omega) hl2 rfl;have:=run_endRound (P:=P) jump hl3;rw [hrec] at this ⊢;exact ⟨this,World.putObj_heap_same (gA hl3).1,(xbq (by omega)).trans (hk3.same _ _ (zaL _) hk2 rfl),by grind⟩
  rintro e a3 W3 hp
  cases e with
  | normal =>
   obtain ⟨hk3,hkp3,hi3⟩:=hp;obtain ⟨hr,hl4,hk4,hb4⟩:=fin none W3 hk3;exact ⟨_,_,hr,.inl ⟨rfl,⟨hI.putObj _ hi3 (by omega) hb4 rfl,hl4,hk4⟩,hKt (hKt hw2 hkp3) (hKb _ _ _ (by omega) ⟨_,hb4⟩)⟩⟩
  | ret =>
   obtain ⟨hk3,hi3⟩:=hp;obtain ⟨hr,hl4,hk4,hb4⟩:=fin (some .ret) W3 hk3;exact ⟨_,_,hr,.inr ⟨rfl,.ret,(hIx _).putObj _ hi3 (by omega) hb4 rfl,hl4,hk4⟩⟩
  | exit id =>
   obtain ⟨hk3,hi3⟩:=hp;obtain ⟨hr,hl4,hk4,hb4⟩:=fin (some (.exit id)) W3 hk3;exact ⟨_,_,hr,.inr ⟨rfl,.exit id,(hIx _).putObj _ hi3 (by omega) hb4 rfl,hl4,hk4⟩⟩
  | goto t =>
   obtain ⟨hk3,hi3⟩:=hp;obtain ⟨hr,hl4,hk4,hb4⟩:=fin (some (.goto t)) W3 hk3;exact ⟨_,_,hr,.inr ⟨rfl,.goto t,(hIx _).putObj _ hi3 (by omega) hb4 rfl,hl4,hk4⟩⟩
  | panic ch=>exact hp.elim
  | outgrown=>exact hp.elim
 rintro e W2 ⟨⟨v,rfl⟩,(⟨xs,hS,hi,hl,hk⟩|⟨pre,hSp,c,hi,hl,hk⟩)⟩
 ·exact ⟨none,_,by have:=run_endLoop (P:=P) hl (by grind);rw [hrec] at this;exact this,hdone xs _ hS (hI.putObj _ hi (by omega) hl rfl) ((xbq (by omega)).trans hk)⟩
 exact ⟨some c,_,by have:=run_endLoop (P:=P) hl (by grind);rw [hrec] at this;exact this,hstop c pre _ hSp ((hIx _).putObj _ hi (by omega) hl rfl) ((xbq (by omega)).trans hk)⟩
end
section
open Go.RowKit Go.Lib Go.Maps Go.MapKept Go.ChangeMaps
section
variable {x:Ky}
theorem Tryz.laidOutY:laidOutB prog=true:=by kernel_rfl
theorem Tryz.rowKey:(36:TypeId)<prog.types.size:=xaM (by kernel_rfl)
theorem Tryz.wideKey:(match prog.underlying 36 with|some (.array _ _)|some (.struct _)=>true|_=>false)=true:=by rw [underlying36]
theorem Tryz.lawKey:WideMaps.KeyLaw prog 36:=deep_law_laid Tryz.laidOutY (m:=2) (by omega) Tryz.rowKey (by kernel_rfl) Tryz.wideKey
theorem Tryz.keyedKey:Keyed prog 36:=Keyed.of_law Tryz.lawKey
theorem Tryz.keyKey:prog.keyType 36=true:=by kernel_rfl
theorem Tryz.cellsKey:prog.cellsOf 36=2:=by kernel_rfl
theorem Tryz.cellsStrY:prog.cellsOf 9=1:=by kernel_rfl
def yO (x:Ky):Prop:=x.1.size<=maxLen/\x.2.size<=maxLen
instance (x:Ky):Decidable (yO x):=inferInstanceAs (Decidable (_∧_))
def nH (x:Ky):Value:=.agg #[.string x.1,.string x.2]
theorem zDJ (x:Ky):(keyOf prog 36 (nH x)).isSome=decide (yO x):=by
 obtain ⟨m,a⟩:∃m,prog.types.size+1=m+2:=⟨prog.types.size-1,by simp_all⟩;have b:(nH x).formed prog 36=true:=by simp [nH,Value.formed,underlying36,Tryz.cellsKey]
 unfold keyOf;rw [underlying36];simp only [Tryz.keyKey,b,Bool.and_self,if_true];rw [a];simp only [nH,Value.cells,yO]
 by_cases h1:x.1.size<=maxLen
 ·by_cases h2:x.2.size<=maxLen
  ·simp [Program.keyLits,underlying36,Tryz.cellsKey,Tryz.cellsStrY,underlying9,h1,h2]
  simp [Program.keyLits,underlying36,Tryz.cellsKey,Tryz.cellsStrY,underlying9,h1,h2]
 simp [Program.keyLits,underlying36,Tryz.cellsKey,Tryz.cellsStrY,underlying9,h1]
noncomputable def mV (x:Ky):Lit:=(keyOf prog 36 (nH x)).getD (.bool false)
theorem nR (h:yO x):keyOf prog 36 (nH x)=some (mV x):=by grind [mV,zDJ,Option.isSome_iff_exists]
theorem zCK {l:Lit} (h:keyOf prog 36 (nH x)=some l):yO x/\l=mV x:=by
 have a:=zDJ x;rw [h] at a;have b:yO x:=xaM a.symm
 grind [nR]
theorem zAC {y:Ky} (b:yO x) (c:yO y) (h:mV x=mV y):x=y:=by
 have a:=nR b;rw [h] at a;have e:=Tryz.keyedKey.inj a (nR c)
 grind [nH]
theorem zGm (c:Value) (e:Lit) (h:keyOf prog 36 c=some e):∃x,c=nH x:=by
 obtain ⟨m,d⟩:∃m,prog.types.size+1=m+2:=⟨prog.types.size-1,by simp_all⟩;unfold keyOf at h;rw [underlying36] at h;simp only [Tryz.keyKey,Bool.true_and] at h
 split at h
 ·next hf =>
  unfold Value.formed at hf;rw [underlying36] at hf
  cases c<;>simp at hf
  next cs =>
   rw [Tryz.cellsKey] at hf;rw [d] at h;obtain ⟨l⟩:=cs
   match l,hf with
   | [a,b],_ =>
   simp only [Value.cells] at h;simp [Program.keyLits,underlying36,Tryz.cellsKey,Tryz.cellsStrY,underlying9] at h
   cases a with
   | string a =>
    cases b with
    | string b=>exact ⟨(a,b),rfl⟩
    | _ =>
    exfalso
    by_cases hs:a.size<=maxLen
    ·simp [hs] at h
    simp [hs] at h
   | _=>simp at h
 cases h
end
end
section
open Go.RowKit Go.Lib Go.Maps Go.MapKept Go.ChangeMaps
section
variable {W W' w':World} {m n r cnt:Nat} {k:Ky} {seen:List Ky}
theorem Tryz.zeroPtr (w:World):(zeroValue 197).run prog w=.ok (.pointer none) w:=by kernel_rfl
def zAc:Option Nat->DataW Unit
 | none=>.lit (.int .i64 (-1))
 | some b=>.lit (.int .i64 b)
def mkP (o:Option Nat):Value:=.pointer (o.map fun b=>⟨b,0,none⟩)
def zD4 (v:Value):Option (DataW Unit × List MemPlace):=match v with
 | .pointer none=>some (zAc none,[])
 | .pointer (some ⟨b,0,none⟩)=>some (zAc (some b),[])
 | _=>none
theorem zBu (o:Option Nat):zD4 (mkP o)=some (zAc o,[]):=by cases o<;>rfl
theorem zGv {a b:Option Nat} (h:zAc a=zAc b):a=b:=by
 cases a<;>cases b<;>simp [zAc] at h
 ·rfl
 grind
theorem zFq (v:Value) (y:DataW Unit × List MemPlace) (h:zD4 v=some y):∃o,v=mkP o:=by
 unfold zD4 at h
 split at h
 ·exact ⟨none,rfl⟩
 ·exact ⟨some _,rfl⟩
 cases h
def tT (W:World) (m n:Nat) (f:Ky->Option Nat):Prop:=∃D:DataW Unit,W.ownsMap prog 36 zD4 m n D/\(∀k,yO k->D.atKey (mV k) (zAc none)=zAc (f k))/\∀k,yO k->Maps.has D (mV k)=(f k).isSome
theorem zMO (w:World):tT (w.alloc (.map #[] 0)) w.heap.size 0 (fun _=>none):=⟨.map [],World.ownsMap_made _ _ _ _,fun _ _=>rfl,fun _ _=>rfl⟩
theorem tT.lt {f:Ky->Option Nat} (h:tT W m n f):m<W.heap.size:=by obtain ⟨D,h,_⟩:=h;exact h.lt
theorem tT.on {f:Ky->Option Nat} (h:tT W m n f) (g:W'.heap[m]? = W.heap[m]?):tT W' m n f:=by
 obtain ⟨D,⟨b,d,e,i⟩,c⟩:=h;exact ⟨D,⟨b,d,g.trans e,i⟩,c⟩
theorem tT.mono {b:Nat} {f:Ky->Option Nat} (h:tT W m n f) (e:n<=b):tT W m b f:=by
 obtain ⟨D,d,c⟩:=h;exact ⟨D,d.mono e,c⟩
theorem tT.congr {f b:Ky->Option Nat} (h:tT W m n f) (g:∀k,yO k->f k=b k):tT W m n b:=by
 obtain ⟨D,d,i,e⟩:=h;exact ⟨D,d,fun k c=>by grind,fun k c=>by grind⟩
theorem tT.obj {f:Ky->Option Nat} (h:tT W m n f):∃b c,W.heap[m]? = some (.map b c):=by
 obtain ⟨D,⟨b,c,e,g⟩,d⟩:=h
 grind
theorem tT.off {f:Ky->Option Nat} (h:tT W m n f) {b o:Nat} {v:Value} (d:W.cell? ⟨b,o,none⟩=some v):b≠m:=by
 obtain ⟨c,e,g⟩:=h.obj
 grind [World.cell?]
theorem zBG {f:Ky->Option Nat} (h:tT W m n f) {k:Ky} (b:yO k):(Instr.lookup 141 (.map (some m)) (nH k) false).run prog W=.ok (mkP (f k)) W:=by
 obtain ⟨D,c,d,_⟩:=h;obtain ⟨v,ps,hrun,hv⟩:=c.lookup Tryz.keyedKey underlying141 (Tryz.zeroPtr _) (zBu none) (nR b)
 grind [zFq,zBu,zGv]
theorem zGg {f:Ky->Option Nat} (h:tT W m n f) {k:Ky} (d:yO k) (j:n<maxLen) (b:Nat):∃w',(Instr.mapUpdate 141 (.map (some m)) (nH k) (mkP (some b))).run prog W=.ok () w'/\tT w' m (n+1) (fun y=>if y=k then some b else f y)/\W.grownBy w' (some m):=by
 obtain ⟨D,c,p,l⟩:=h;obtain ⟨w',hrun,hD',hg⟩:=c.update Tryz.keyedKey underlying141 j (nR d) (zBu (some b));have g:=Tryz.keyedKey.key (nR d);refine ⟨w',hrun,⟨_,hD',fun y i=>?_,fun y i=>?_⟩,hg⟩
 ·by_cases e:y=k
  ·subst e;simp only [if_true];exact atKey_put_same c.isMap g _ _
  simp only [xag e]
  grind [atKey_put_other,zAC]
 by_cases e:y=k
 ·subst e;simp only [if_true];exact has_put_same c.isMap g _
 simp only [xag e]
 grind [has_put_other,zAC]
def xU (W:World) (m r n:Nat) (f:Ky->Option Nat) (seen:List Ky) (cnt:Nat):Prop:=∃(D:DataW Unit) (left:Lit->Bool),W.ranges prog 36 zD4 m r n D left cnt/\(∀k,yO k->D.atKey (mV k) (zAc none)=zAc (f k))/\(∀k,yO k->Maps.has D (mV k)=(f k).isSome) /\
  (∀k,yO k->(left (mV k)=true↔(f k).isSome=true/\k ∉ seen))/\seen.Nodup/\(∀k∈seen,yO k/\(f k).isSome=true)/\seen.length+cnt<=n
theorem xU.map {f:Ky->Option Nat} (h:xU W m r n f seen cnt):tT W m n f:=by
 obtain ⟨D,left,c,d,b,_⟩:=h;exact ⟨D,c.owns,d,b⟩
theorem xU.lt {f:Ky->Option Nat} (h:xU W m r n f seen cnt):r<W.heap.size:=by
 obtain ⟨D,left,b,_⟩:=h;exact b.lt
theorem xU.nodup {f:Ky->Option Nat} (h:xU W m r n f seen cnt):seen.Nodup/\(∀k∈seen,yO k/\(f k).isSome=true)/\seen.length+cnt<=n:=by
 obtain ⟨D,left,c,_,_,_,e,b,d⟩:=h
 grind
theorem xU.iter {f:Ky->Option Nat} (h:xU W m r n f seen cnt):∃c b d,W.heap[r]? = some (.mapIter (some m) c b d):=by
 obtain ⟨D,left,⟨e,g,c,b,d,_,_,_,_,i,_⟩,_⟩:=h
 grind
theorem xU.on {f:Ky->Option Nat} (h:xU W m r n f seen cnt) (l:W'.heap[m]? = W.heap[m]?) (p:W'.heap[r]? = W.heap[r]?):xU W' m r n f seen cnt:=by
 obtain ⟨D,left,⟨b,c,e,d,s,g,j,q,i,v,t⟩,u⟩:=h;exact ⟨D,left,⟨b,c,e,d,s,l.trans g,j,q,i,p.trans v,t⟩,u⟩
theorem zFX {f:Ky->Option Nat} {D:DataW Unit} (e:W.ownsMap prog 36 zD4 m n D) (d:∀k,yO k->D.atKey (mV k) (zAc none)=zAc (f k)) (c:∀k,yO k->Maps.has D (mV k)=(f k).isSome) {r:Nat}
  (h:w'.ranges prog 36 zD4 m r n D (Maps.has D) (Maps.size D)):xU w' m r n f [] (Maps.size D):=⟨D,_,h,d,c,fun k b=>by grind,List.nodup_nil,fun k b=>by simp at b,by have:=e.size_le;grind⟩
theorem zG9 {f:Ky->Option Nat} {c:Nat} {D:DataW Unit} {left:Lit->Bool} (h:∀k,yO k->D.atKey (mV k) (zAc none)=zAc (f k)) (i:∀k,yO k->Maps.has D (mV k)=(f k).isSome)
  (h4:∀k,yO k->(left (mV k)=true↔(f k).isSome=true/\k ∉ seen)) (h5:seen.Nodup) (h6:∀k∈seen,yO k/\(f k).isSome=true) (h7:seen.length+cnt<=n) {x:Ky} {kl:Lit} (hkey:keyOf prog 36 (nH x)=some kl) (hl:left kl=true) (hlt:c<cnt)
  (hr:w'.ranges prog 36 zD4 m r n D (fun z=>left z && !z.sameKey kl) c):yO x/\x ∉ seen/\(f x).isSome=true/\xU w' m r n f (seen++[x]) c:=by
 obtain ⟨d,rfl⟩:=zCK hkey;have g:(f x).isSome=true/\x ∉ seen:=(h4 x d).1 hl;refine ⟨d,g.2,g.1,D,_,hr,h,i,fun k b=>?_,?_,fun k b=>?_,by grind⟩
 ·show (left (mV k) && !(mV k).sameKey (mV x))=true↔_
  rw [xaP,h4 k b]
  by_cases e:k=x
  ·subst e;rw [WideAt.sameKey_self (Tryz.keyedKey.key (nR b))];simp
  grind [sameKey_ne,zAC]
 ·grind
 grind
section
variable (w:World) {ops:Array Oper} {rest:List Oper} {o:Oper} {a:Act} {Q:Exit→Act→World→Prop}
theorem cY (p:o.guard=none) (b:Operand) (q:o.op=Op.range 141 b) (m n:Nat) (f:Ky->Option Nat) (g:a.eval b=.map (some m)) (h:tT w m n f)
  (hK:∀w' cnt,xU w' m w.heap.size n f [] cnt->w.grownBy w' none->w'.heap.size=w.heap.size+1->wpList prog ops Q rest (a.put o.dst (.pointer (some ⟨w.heap.size,0,none⟩))) w'):wpList prog ops Q (o::rest) a w:=by
 obtain ⟨D,c,l,e⟩:=h;exact wpList_range_own w p b _ q _ _ Tryz.keyedKey underlying141 zD4 m n D g c fun w' d i j=>hK w' _ (zFX c l e d) i j
theorem zAu (v:o.guard=none) (e:Operand) (A:o.op=Op.next e false) (m r n:Nat) (f:Ky->Option Nat) (seen:List Ky) (cnt:Nat) (q:a.eval e=.pointer (some ⟨r,0,none⟩)) (h:xU w m r n f seen cnt)
  (hDone:(∀k,yO k->(f k).isSome=true->k∈seen)->wpList prog ops Q rest (a.put o.dst (.tuple #[.bool false])) w)
  (hMore:∀(k:Ky) (b:Nat) (w':World) (d:Nat),yO k->k ∉ seen->f k=some b->xU w' m r n f (seen++[k]) d->d<cnt->w.grownBy w' (some r)->w'.heap.size=w.heap.size ->
   (Instr.entry (.pointer (some ⟨r,0,none⟩))).run prog w'=.ok (.tuple #[nH k,mkP (some b)]) w'->wpList prog ops Q rest (a.put o.dst (.tuple #[.bool true,nH k,mkP (some b)])) w'):wpList prog ops Q (o::rest) a w:=by
 obtain ⟨D,left,g,s,l,z,C,u,B⟩:=h;refine wpList_next_ranges w v e A _ Tryz.keyedKey zD4 nH mkP zGm zFq m r n D left cnt q g (fun _ K=>hDone fun k F E=>?_) fun x c G y w' d j p P I t i N H L=>?_
 ·grind
 obtain ⟨J,R,O,M⟩:=zG9 s l z C u B j p i t
 grind [zBu,zCK,zGv,Option.isSome_iff_exists]
end
end
end
def yB:Vx:=⟨0,0,0,false,none,0,[]⟩
theorem zDv {w:World} {a:Addr} {v:Value} (o:Obj) (h:w.cell? a=some v):(w.alloc o).cell? a=some v:=(((zaR w.heap.size w).alloc (zaL _) o).cell (zI h)).trans h
theorem Tryz.infoVer:(prog.info? 42).map (fun i=>(i.zero,i.size,i.bytes))=some (some (.agg #[.int .i64 0,.int .u64 0,.int .i64 0,.bool false,.slice none 0 0]),5,56):=by kernel_rfl
theorem zQE {w:World} {b a:Nat} {d:List Vx} (m:Nat) (h:KV.At w b a d):KV.At w b (a+m * 5) (d.drop m):=fun i hi j u c=>by
 rw [xaw] at hi;have hu':(KV.enc (d[m+i]'(by omega)))[j]? = some u:=by rw [xaT] at c;exact c
 have:=h (m+i) (by omega) j u hu';have e:a+(m+i) * KV.k+j=a+m * 5+i * KV.k+j:=by rw [xbQ];show a+(m * 5+i * 5)+j=_;show _=a+m * 5+i * 5+j;omega
 grind
theorem zI1 {l:List UInt8} (h:jB l=true):l.length<=32:=by
 unfold jB wS at h
 grind
theorem zHw {f:Fld} (h:jS f=true):f.1.size<=32/\0<f.2.length/\f.2.length<=8/\(∀t∈f.2,t.size<=128)/\jB f.1.data.toList=true:=by
 unfold jS at h;simp only [xaP,xbA,xa5] at h;obtain ⟨⟨⟨a,e⟩,b⟩,d⟩:=h;refine ⟨by simpa using zI1 a,?_,b,fun t c=>?_,a⟩<;>grind [zB4]
end Go.Proofs.YtkhljboeffhciaaGreat
