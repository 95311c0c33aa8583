/-
  Texts of this claim, one behind the other: Stba Stbb Ord Plain Leaf Tac Spell Shelf Fld Bld Dec0 Dec1 May0 May Dec2 Sor Equ Tex Joa Job Stbc Stc Std Ste Stf Joc Sam App Gen Frm Cb0 Cob Coz Cfm Cv0 Spk Sh3 Ix Cut Kys Zcmp Zeq Zcomp2 Zord Zsortz Zkrow Zsame Tak Dfd Ltb Rs0 Fdi Trm Ozw Rname Rp0 Rp1 Rp2 Ksu.
-/
import Derived.Sort.LotA
import Derived.Lib.Bytealg
import GoSem.Claim
import Derived.Test.YtmhlcnmfbolgdaaGreatProg
import Derived.WalkKit
import Derived.WalkSpells
import Derived.WalkLawsBesides
import Derived.Laws.Rows
import Derived.Deep.LoopGhost
import Derived.Deep.QuietTactic
import Derived.Deep.DrawnRows
import Derived.Deep.RegionHeld3
import Derived.Deep.AppendLies
import Derived.BigQuiet
import Derived.BigRegion
import Derived.LoopN
import Derived.OwnWalk
import Derived.Laws.OwnMore
import Derived.Laws.MakeOwn
import Derived.Shelf.SlSortCmp.QuietGrown
import Derived.Shelf.Small.Bits
import Derived.Shelf.Small.Strs
import Derived.Shelf.Small.Wraps
import Derived.Shelf.Strconv.Itoa0
import Derived.Shelf.Strings.Search1
import Derived.Shelf.Strings.Search2
import Derived.Shelf.Strings.Search3
import Derived.Shelf.Strings.Prefix
import Derived.Ground.Names2Prog
import Derived.Shelf.Slices.Clone
import Derived.Ground.SlgnProg
import Derived.Shelf.SlicesE.Clone
import Derived.Ground.SlgfProg
import Derived.Shelf.SlicesE.IndexFunc
import Derived.Shelf.SlGeneric
import Derived.Shelf.SlicesQ.IndexFunc
import Derived.Shelf.SlSortCmp.InsertionK
import Derived.Ground.NamesProg
import Derived.Shelf.Lays
import Derived.Ground.SlgqProg
import Derived.Ground.SlsfProg
import Derived.Shelf.SlLaysE0
import Derived.Shelf.SlLaysF0
import Derived.Shelf.SlLaysH0
import Derived.Shelf.SlLaysQ
import Derived.Shelf.SlSortCmp.SmallK
import Derived.Shelf.SlicesQ.Contains
import Derived.Shelf.SlicesQ.Equal
import Derived.Shelf.SlSortCmp.KitK
import Derived.Lib.Strings
import Derived.Sort.WalkB2
import Derived.Sort.WalkB12
import Derived.Deep.CutRange
import Derived.Laws.CopyOwn
import Derived.Maps.AppendAt
import Derived.Test.YtmhlcnmfbolgdaaGreatRows
import Derived.MakeChecks
import Derived.ProofKit
import Derived.OpenShut
import Derived.Lay
import Derived.Stop.Joined
import Derived.SliceStrings
import Derived.Deep.SlicePairs
import Derived.Lib.LaidU8
import Derived.SizedLaws
import Derived.ChangeSlices
import Derived.JoinedCond
import Derived.Lib.SmallJoins
import Derived.ShutString
import Derived.Below
import Derived.Deep.DeepHandedRow
import Derived.Lib.IndexBytes
import Derived.Laws.StructEq
import Derived.Lib.SliceRun
import Derived.Shelf.SlSortCmp.WholeK
import Derived.Shelf.GgSortFunc.RowK
namespace Go.Proofs.YtmhlcnmfbolgdaaGreat
theorem sz {α : Type} : (∀ (l : List α) (i : Nat) (y : α), l.toArray.setIfInBounds i y = (l.set i y).toArray) ∧ (∀ (x y : α) (l : List α), (x :: l).set 0 y = y :: l) ∧ ∀ (x y : α) (l : List α) (i : Nat), (x :: l).set (i + 1) y = x :: l.set i y :=
  ⟨fun l i y => List.setIfInBounds_toArray l i y, fun _ _ _ => rfl, fun _ _ _ _ => rfl⟩
theorem cz {w : World} {b j : Nat} {cs : Array Value} {T : TypeId} {fr : Nat × Nat} {v : Value} (hb : w.heap[b]? = some (.cells cs T fr)) (hv : cs[j]? = some v := by rfl) : w.cell? ⟨b, j, none⟩ = some v := by
  simp only [World.cell?, hb]; exact hv
section
open Go.Sort
set_option linter.unusedSectionVars false
variable {α:Type} [Inhabited α] {κ:Type} [DecidableEq κ]
def Stab (K:α→κ) (d d':Array α):Prop:=∀c,d'.toList.filter (fun x=>decide (K x=c))=d.toList.filter (fun x=>decide (K x=c))
theorem Stab.refl (K:α→κ) (d:Array α):Stab K d d:=fun _=>rfl
theorem Stab.trans {K:α→κ} {d d' d'':Array α} (h:Stab K d d') (h':Stab K d' d''):Stab K d d'':=fun c=>(h' c).trans (h c)
def Rot (s m e:Nat) (d d':Array α):Prop :=
 d'.size=d.size∧(∀t,t<e-m→d'[s+t]! = d[m+t]!)∧(∀t,t<m-s→d'[s+(e-m)+t]! = d[s+t]!)∧(∀i,i<s∨e≤i→d'[i]! = d[i]!)
theorem toList_range (d:Array α):d.toList=(List.range' 0 d.size).map (fun i=>d[i]!):=by
 have h:=extract_toList d 0 d.size (Nat.le_refl _)
 rw [Array.extract_size,Nat.sub_zero] at h
 exact h
theorem range'_cut (s k l:Nat):List.range' s (k+l)=List.range' s k++List.range' (s+k) l:=by
 rw [←List.range'_append_1]
theorem map_range'_shift (f g:Nat→α) (s s' n:Nat) (h:∀t,t<n→f (s+t)=g (s'+t)):(List.range' s n).map f=(List.range' s' n).map g:=by
 apply List.ext_getElem
 ·simp
 ·intro i h1 h2
  simp only [List.length_map,List.length_range'] at h1
  simp only [List.getElem_map,List.getElem_range',Nat.one_mul]
  exact h i h1
theorem Rot.parts {s m e:Nat} {d d':Array α} (h:Rot s m e d d') (hsm:s≤m) (hme:m≤e) (he:e≤d.size) :
  ∃A L R B:List α,d.toList=A++L++R++B∧d'.toList=A++R++L++B∧L=(List.range' s (m-s)).map (fun i=>d[i]!)∧R=(List.range' m (e-m)).map (fun i=>d[i]!):=by
 obtain ⟨hz,h1,h2,h3⟩:=h
 refine ⟨(List.range' 0 s).map (fun i=>d[i]!),_,_,(List.range' e (d.size-e)).map (fun i=>d[i]!),?_,?_,rfl,rfl⟩
 ·rw [toList_range]
  have e1:d.size=s+(m-s)+(e-m)+(d.size-e):=by omega
  conv=>lhs;rw [e1]
  rw [range'_cut,range'_cut,range'_cut]
  simp only [List.map_append]
  rw [show 0+s=s by omega,show 0+(s+(m-s))=m by omega,show 0+(s+(m-s)+(e-m))=e by omega]
 ·rw [toList_range,hz]
  have e1:d.size=s+(e-m)+(m-s)+(d.size-e):=by omega
  conv=>lhs;rw [e1]
  rw [range'_cut,range'_cut,range'_cut]
  simp only [List.map_append]
  rw [show 0+s=s by omega,show 0+(s+(e-m))=s+(e-m) by omega,show 0+(s+(e-m)+(m-s))=e by omega]
  congr 1
  ·congr 1
   ·congr 1
    ·exact map_range'_shift _ _ 0 0 s (fun t ht=>h3 _ (Or.inl (by omega)))
    ·exact map_range'_shift _ _ _ _ _ (fun t ht=>h1 t ht)
   ·exact map_range'_shift _ _ _ _ _ (fun t ht=>h2 t ht)
  ·exact map_range'_shift _ _ _ _ _ (fun t ht=>h3 _ (Or.inr (by omega)))
theorem Rot.stab {K:α→κ} {s m e:Nat} {d d':Array α} (h:Rot s m e d d') (hsm:s≤m) (hme:m≤e) (he:e≤d.size)
  (hK:∀i j,s≤i→i<m→m≤j→j<e→K d[i]!≠K d[j]!):Stab K d d':=by
 obtain ⟨A,L,R,B,e1,e2,hL,hR⟩:=h.parts hsm hme he
 intro c
 rw [e1,e2]
 simp only [List.filter_append]
 have:L.filter (fun x=>decide (K x=c))=[]∨R.filter (fun x=>decide (K x=c))=[]:=by
  rcases hl:L.filter (fun x=>decide (K x=c)) with _|⟨x,l⟩
  ·exact Or.inl rfl
  ·right
   have hx:x∈L.filter (fun x=>decide (K x=c)):=by rw [hl];simp
   rw [List.filter_eq_nil_iff]
   intro y hy hyc
   simp only [decide_eq_true_eq] at hyc
   obtain ⟨hx1,hx2⟩:=List.mem_filter.1 hx
   simp only [decide_eq_true_eq] at hx2
   rw [hL,List.mem_map] at hx1
   rw [hR,List.mem_map] at hy
   obtain ⟨i,hi,rfl⟩:=hx1
   obtain ⟨j,hj,rfl⟩:=hy
   rw [List.mem_range'_1] at hi hj
   exact hK i j (by omega) (by omega) (by omega) (by omega) (hx2.trans hyc.symm)
 rcases this with h0|h0<;>rw [h0]<;>simp
theorem Rot.perm {s m e:Nat} {d d':Array α} (h:Rot s m e d d') (hsm:s≤m) (hme:m≤e) (he:e≤d.size):PermIn s e d d':=by
 obtain ⟨hz,h1,h2,h3⟩:=h
 refine ⟨hz,h3,?_⟩
 rw [extract_toList _ _ _ (by omega),extract_toList _ _ _ he]
 have e1:e-s=(m-s)+(e-m):=by omega
 have e2:e-s=(e-m)+(m-s):=by omega
 conv=>lhs;rw [e2]
 conv=>rhs;rw [e1]
 rw [range'_cut,range'_cut]
 simp only [List.map_append]
 rw [map_range'_shift (fun i=>d'[i]!) (fun i=>d[i]!) s m (e-m) (fun t ht=>h1 t ht),map_range'_shift (fun i=>d'[i]!) (fun i=>d[i]!) (s+(e-m)) s (m-s) (fun t ht=>h2 t ht),show s+(m-s)=m by omega]
 exact List.perm_append_comm
theorem rot_swp (d:Array α) (j:Nat) (h:j+1<d.size):Rot j (j+1) (j+2) d (swp d (j+1) j):=by
 refine ⟨size_swp _ _ _,fun t ht=>?_,fun t ht=>?_,fun i hi=>?_⟩
 ·obtain rfl:t=0:=by omega
  exact swp_right d (j+1) j (by omega)
 ·obtain rfl:t=0:=by omega
  rw [show j+(j+2-(j+1))+0=j+1 by omega]
  exact swp_left d (j+1) j h (by omega)
 ·exact swp_other d (j+1) j i (by omega) (by omega)
theorem insInner_stab {K:α→κ} {lt:α→α→Bool} (hK:∀x y,lt x y=true→K x≠K y) (a:Nat):∀(j:Nat) (d:Array α),j<d.size→Stab K d (insInner lt a j d)
 | 0,d,_=>Stab.refl K d
 | j+1,d,hj=>by
  unfold insInner
  split
  ·rename_i hc
   simp only [Bool.and_eq_true,decide_eq_true_eq] at hc
   refine Stab.trans ((rot_swp d j hj).stab (by omega) (by omega) (by omega) fun i i' h1 h2 h3 h4=>?_) (insInner_stab hK a j _ (by rw [size_swp];omega))
   obtain rfl:i=j:=by omega
   obtain rfl:i'=i+1:=by omega
   exact fun e=>hK _ _ hc.2 e.symm
  ·exact Stab.refl K d
theorem insInner_size {lt:α→α→Bool} (a:Nat):∀(j:Nat) (d:Array α),(insInner lt a j d).size=d.size
 | 0,d=>rfl
 | j+1,d=>by
  unfold insInner
  split
  ·rw [insInner_size a j,size_swp]
  ·rfl
theorem insOuter_stab {K:α→κ} {lt:α→α→Bool} (hK:∀x y,lt x y=true→K x≠K y) (a b:Nat):∀(n i:Nat) (d:Array α),b-i≤n→b≤d.size→Stab K d (insOuter lt a b i d)
 | 0,i,d,hn,hb=>by
  unfold insOuter
  rw [if_neg (by omega)]
  exact Stab.refl K d
 | n+1,i,d,hn,hb=>by
  unfold insOuter
  split
  ·exact (insInner_stab hK a i d (by omega)).trans (insOuter_stab hK a b n (i+1) _ (by omega) (by rw [insInner_size];exact hb))
  ·exact Stab.refl K d
theorem insertionSort_stab {K:α→κ} {lt:α→α→Bool} (hK:∀x y,lt x y=true→K x≠K y) (d:Array α) (a b:Nat) (hb:b≤d.size):Stab K d (insertionSort lt d a b) :=
 insOuter_stab hK a b _ _ d (Nat.le_refl _) hb
theorem Rot.left {s m e j:Nat} {d dk d':Array α} (hsm:s≤m) (hme:m≤e) (hj:j=e-m) (hij:j≤m-s) (hz:dk.size=d.size) (h1:∀t,t<j→dk[s+t]! = d[m+t]!) (h2:∀t,t<j→dk[m+t]! = d[s+t]!)
  (h3:∀i,(i<s∨s+j≤i)→(i<m∨m+j≤i)→dk[i]! = d[i]!) (h:Rot (s+j) m e dk d'):Rot s m e d d':=by
 obtain ⟨k1,k2,k3,k4⟩:=h
 refine ⟨k1.trans hz,fun t ht=>?_,fun t ht=>?_,fun i hi=>?_⟩
 ·rw [k4 _ (Or.inl (by omega))];exact h1 t (by omega)
 ·by_cases hlt:t<j
  ·have:=k2 t (by omega)
   rw [show s+(e-m)+t=s+j+t by omega,this]
   exact h2 t hlt
  ·have:=k3 (t-j) (by omega)
   rw [show s+(e-m)+t=s+j+(e-m)+(t-j) by omega,this,h3 _ (by omega) (by omega)]
   congr 1;omega
 ·rw [k4 _ (by omega),h3 _ (by omega) (by omega)]
theorem Rot.right {s m e i:Nat} {d dk d':Array α} (hsm:s≤m) (hme:m≤e) (hi:i=m-s) (hij:i≤e-m) (hz:dk.size=d.size) (h1:∀t,t<i→dk[s+t]! = d[e-i+t]!) (h2:∀t,t<i→dk[e-i+t]! = d[s+t]!)
  (h3:∀x,(x<s∨s+i≤x)→(x<e-i∨e≤x)→dk[x]! = d[x]!) (h:Rot s m (e-i) dk d'):Rot s m e d d':=by
 obtain ⟨k1,k2,k3,k4⟩:=h
 refine ⟨k1.trans hz,fun t ht=>?_,fun t ht=>?_,fun x hx=>?_⟩
 ·by_cases hlt:t<e-i-m
  ·rw [k2 t hlt,h3 _ (by omega) (by omega)]
  ·have:=k3 (t-(e-i-m)) (by omega)
   rw [show s+t=s+(e-i-m)+(t-(e-i-m)) by omega,this,h1 _ (by omega)]
   congr 1;omega
 ·rw [k4 _ (by omega),show s+(e-m)+t=e-i+t by omega]
  exact h2 t (by omega)
 ·rw [k4 _ (by omega),h3 _ (by omega) (by omega)]
theorem Rot.even {s m e i:Nat} {d d':Array α} (hi:i=m-s) (hsm:s≤m) (hme:m≤e) (hij:i=e-m) (hz:d'.size=d.size) (h1:∀t,t<i→d'[s+t]! = d[m+t]!) (h2:∀t,t<i→d'[m+t]! = d[s+t]!)
  (h3:∀x,(x<s∨s+i≤x)→(x<m∨m+i≤x)→d'[x]! = d[x]!):Rot s m e d d' :=
 ⟨hz,fun t ht=>h1 t (by omega),fun t ht=>by rw [show s+(e-m)+t=m+t by omega];exact h2 t (by omega),fun x hx=>h3 x (by omega) (by omega)⟩
end
section
open Go.Sort
set_option linter.unusedSectionVars false
variable {α:Type} [Inhabited α] {κ:Type} [DecidableEq κ]
def Mrg (lt:α→α→Bool) (K:α→κ) (a b:Nat) (d d':Array α):Prop:=PermIn a b d d'∧SortedIn lt a b d'∧Stab K d d'
theorem SWO.le_le {lt:α→α→Bool} (hS:SWO lt) {x y z:α} (h1:lt y x=false) (h2:lt z y=false):lt z x=false:=hS.ntrans _ _ _ h2 h1
theorem SWO.lt_le {lt:α→α→Bool} (hS:SWO lt) {x y z:α} (h1:lt x y=true) (h2:lt z y=false):lt x z=true:=by
 cases h:lt x z
 ·exact absurd (hS.ntrans _ _ _ h h2) (by rw [h1];simp)
 ·rfl
theorem SWO.le_lt {lt:α→α→Bool} (hS:SWO lt) {x y z:α} (h1:lt y x=false) (h2:lt y z=true):lt x z=true:=by
 cases h:lt x z
 ·exact absurd (hS.ntrans _ _ _ h1 h) (by rw [h2];simp)
 ·rfl
theorem SortedIn.le {lt:α→α→Bool} (hS:SWO lt) {a b:Nat} {d:Array α} (h:SortedIn lt a b d) {i j:Nat} (h1:a≤i) (h2:i≤j) (h3:j<b):lt d[j]! d[i]! = false:=by
 rcases Nat.eq_or_lt_of_le h2 with rfl|h4
 ·exact hS.irrefl _
 ·exact h i j h1 h4 h3
theorem Rot.shift_up {a k:Nat} {d dk:Array α} (h:Rot a (a+1) (k+1) d dk) (hak:a≤k) (hk:k+1<d.size):Rot a (a+1) (k+2) d (swp dk k (k+1)):=by
 obtain ⟨h1,h2,h3,h4⟩:=h
 refine ⟨by rw [size_swp,h1],fun t ht=>?_,fun t ht=>?_,fun i hi=>?_⟩
 ·by_cases hlt:t<k+1-(a+1)
  ·rw [swp_other _ _ _ _ (by omega) (by omega)];exact h2 t hlt
  ·rw [show a+t=k by omega,swp_left _ _ _ (by omega) (by omega),h4 _ (Or.inr (by omega))];congr 1;omega
 ·obtain rfl:t=0:=by omega
  rw [show a+(k+2-(a+1))+0=k+1 by omega,swp_right _ _ _ (by omega)]
  have:=h3 0 (by omega)
  rw [show a+(k+1-(a+1))+0=k by omega] at this
  exact this
 ·rw [swp_other _ _ _ _ (by omega) (by omega)];exact h4 _ (by omega)
theorem Rot.shift_down {k m:Nat} {d dk:Array α} (h:Rot (k+1) m (m+1) d dk) (hkm:k+1≤m) (hm:m<d.size):Rot k m (m+1) d (swp dk (k+1) k):=by
 obtain ⟨h1,h2,h3,h4⟩:=h
 refine ⟨by rw [size_swp,h1],fun t ht=>?_,fun t ht=>?_,fun i hi=>?_⟩
 ·obtain rfl:t=0:=by omega
  show (swp dk (k+1) k)[k]! = d[m+0]!
  rw [swp_right _ _ _ (by omega)]
  exact h2 0 (by omega)
 ·by_cases h0:t=0
  ·subst h0
   rw [show k+(m+1-m)+0=k+1 by omega,swp_left _ _ _ (by omega) (by omega),h4 _ (Or.inl (by omega)),Nat.add_zero]
  ·rw [swp_other _ _ _ _ (by omega) (by omega)]
   have:=h3 (t-1) (by omega)
   rw [show k+1+(m+1-m)+(t-1)=k+(m+1-m)+t by omega] at this
   rw [this];congr 1;omega
 ·rw [swp_other _ _ _ _ (by omega) (by omega)];exact h4 _ (by omega)
theorem rot_none (s m:Nat) (d:Array α):Rot s m m d d:=by
 refine ⟨rfl,fun t ht=>by omega,fun t _=>by rw [show s+(m-m)+t=s+t by omega],fun _ _=>rfl⟩
theorem rot_none' (m e:Nat) (d:Array α):Rot m m e d d:=by
 refine ⟨rfl,fun t _=>rfl,fun t ht=>by omega,fun _ _=>rfl⟩
theorem Rot.at1 {s m e:Nat} {d d':Array α} (h:Rot s m e d d') {p:Nat} (h1:s≤p) (h2:p<s+(e-m)):d'[p]! = d[p+(m-s)]!∨m<s:=by
 by_cases hms:m<s
 ·exact Or.inr hms
 ·left
  have:=h.2.1 (p-s) (by omega)
  rw [show s+(p-s)=p by omega] at this
  rw [this];congr 1;omega
theorem Rot.lo {s m e:Nat} {d d':Array α} (h:Rot s m e d d') (hsm:s≤m) {p:Nat} (h1:s≤p) (h2:p<s+(e-m)):d'[p]! = d[p+(m-s)]!:=by
 rcases h.at1 h1 h2 with h|h
 ·exact h
 ·omega
theorem Rot.hi {s m e:Nat} {d d':Array α} (h:Rot s m e d d') {p:Nat} (h1:s+(e-m)≤p) (h2:p<e) (hme:m≤e):d'[p]! = d[p-(e-m)]!:=by
 have:=h.2.2.1 (p-(s+(e-m))) (by omega)
 rw [show s+(e-m)+(p-(s+(e-m)))=p by omega] at this
 rw [this];congr 1;omega
theorem Rot.out {s m e:Nat} {d d':Array α} (h:Rot s m e d d') {p:Nat} (h1:p<s∨e≤p):d'[p]! = d[p]!:=h.2.2.2 p h1
theorem Rot.merge {lt:α→α→Bool} {K:α→κ} (hS:SWO lt) (hK:∀x y,lt x y=true→K x≠K y) {a s m e b:Nat} {d d1:Array α} (h:Rot s m e d d1) (has:a≤s) (hsm:s≤m) (hme:m≤e) (heb:e≤b) (hb:b≤d.size)
  (hL:SortedIn lt a m d) (hR:SortedIn lt m b d)
  (hlow:a<s→e<b→lt d[e]! d[s-1]! = false) (hhigh:s<m→m<e→lt d[e-1]! d[s]! = true) :
  PermIn a b d d1∧Stab K d d1∧SortedIn lt a s d1∧SortedIn lt s (s+(e-m)) d1∧SortedIn lt (s+(e-m)) e d1∧SortedIn lt e b d1 ∧
   (∀p q,a≤p→p<s+(e-m)→s+(e-m)≤q→q<b→lt d1[q]! d1[p]! = false):=by
 have hx:∀i j,s≤i→i<m→m≤j→j<e→lt d[j]! d[i]! = true:=fun i j h1 h2 h3 h4=>by
  have t:=hhigh (by omega) (by omega)
  exact SWO.lt_le hS (SWO.le_lt hS (SortedIn.le hS hR h3 (show j≤e-1 by omega) (by omega)) t) (SortedIn.le hS hL has h1 h2)
 have hy:∀i j,a≤i→i<s→e≤j→j<b→lt d[j]! d[i]! = false:=fun i j h1 h2 h3 h4=>by
  have t:=hlow (by omega) (by omega)
  exact SWO.le_le hS (SWO.le_le hS (SortedIn.le hS hL h1 (show i≤s-1 by omega) (by omega)) t) (SortedIn.le hS hR hme h3 h4)
 refine ⟨permIn_mono _ _ _ _ _ _ has heb hb (h.perm hsm hme (by omega)),h.stab hsm hme (by omega) (fun i j h1 h2 h3 h4 e=>hK _ _ (hx i j h1 h2 h3 h4) e.symm),fun i j h1 h2 h3=>?_,fun i j h1 h2 h3=>?_,fun i j h1 h2 h3=>?_,fun i j h1 h2 h3=>?_,fun p q h1 h2 h3 h4=>?_⟩
 ·rw [h.out (Or.inl (by omega)),h.out (Or.inl (by omega))];exact hL i j h1 h2 (by omega)
 ·rw [h.lo hsm (by omega) (by omega),h.lo hsm (by omega) (by omega)];exact hR _ _ (by omega) (by omega) (by omega)
 ·rw [h.hi (by omega) (by omega) hme,h.hi (by omega) (by omega) hme];exact hL _ _ (by omega) (by omega) (by omega)
 ·rw [h.out (Or.inr (by omega)),h.out (Or.inr (by omega))];exact hR i j (by omega) h2 (by omega)
 ·by_cases c1:p<s
  ·rw [h.out (p:=p) (Or.inl c1)]
   by_cases c2:q<e
   ·rw [h.hi h3 c2 hme];exact SortedIn.le hS hL h1 (by omega) (by omega)
   ·rw [h.out (Or.inr (by omega))];exact hy p q h1 c1 (by omega) h4
  ·rw [h.lo (p:=p) hsm (by omega) h2]
   by_cases c2:q<e
   ·rw [h.hi h3 c2 hme];exact SWO.asymmA hS (hx _ _ (by omega) (by omega) (by omega) (by omega))
   ·rw [h.out (Or.inr (by omega))];exact SortedIn.le hS hR (by omega) (by omega) h4
theorem sorted_halves {lt:α→α→Bool} {a c b:Nat} {d1 d2 d3:Array α} (hac:a≤c) (hcb:c≤b) (hb:b≤d1.size)
  (hX:∀p q,a≤p→p<c→c≤q→q<b→lt d1[q]! d1[p]! = false) (p2:PermIn a c d1 d2) (s2:SortedIn lt a c d2) (p3:PermIn c b d2 d3) (s3:SortedIn lt c b d3) :
  PermIn a b d1 d3∧SortedIn lt a b d3:=by
 have z2:=p2.1
 have hX2:∀q,c≤q→q<b→∀p,a≤p→p<c→lt d2[q]! d2[p]! = false:=fun q h1 h2=>by
  rw [p2.2.1 q (Or.inr h1)]
  exact permIn_all d1 d2 a c (fun x=>lt d1[q]! x=false) (by omega) p2 (fun p h3 h4=>hX p q h3 h4 h1 h2)
 have hX3:∀p,a≤p→p<c→∀q,c≤q→q<b→lt d3[q]! d3[p]! = false:=fun p h1 h2=>by
  rw [p3.2.1 p (Or.inl h2)]
  exact permIn_all d2 d3 c b (fun x=>lt x d2[p]! = false) (by omega) p3 (fun q h3 h4=>hX2 q h3 h4 p h1 h2)
 refine ⟨permIn_trans _ _ _ _ _ (permIn_mono _ _ _ _ _ _ (Nat.le_refl _) hcb hb p2) (permIn_mono _ _ _ _ _ _ hac (Nat.le_refl _) (by omega) p3),fun i j h1 h2 h3=>?_⟩
 by_cases c1:i<c
 ·by_cases c2:j<c
  ·rw [p3.2.1 i (Or.inl c1),p3.2.1 j (Or.inl c2)];exact s2 i j h1 h2 c2
  ·exact hX3 i h1 c1 j (by omega) h3
 ·exact s3 i j (by omega) h2 h3
theorem Mrg.of_rot {lt:α→α→Bool} {K:α→κ} (hS:SWO lt) (hK:∀x y,lt x y=true→K x≠K y) {a s m e b:Nat} {d d1 d2 d3:Array α} (h:Rot s m e d d1) (has:a≤s) (hsm:s≤m) (hme:m≤e) (heb:e≤b) (hb:b≤d.size)
  (hL:SortedIn lt a m d) (hR:SortedIn lt m b d) (hlow:a<s→e<b→lt d[e]! d[s-1]! = false) (hhigh:s<m→m<e→lt d[e-1]! d[s]! = true)
  (m2:Mrg lt K a (s+(e-m)) d1 d2) (m3:Mrg lt K (s+(e-m)) b d2 d3):Mrg lt K a b d d3:=by
 obtain ⟨p1,st1,_,_,_,_,hX⟩:=h.merge (K:=K) hS hK has hsm hme heb hb hL hR hlow hhigh
 obtain ⟨p2,s2,st2⟩:=m2
 obtain ⟨p3,s3,st3⟩:=m3
 obtain ⟨p,s⟩:=sorted_halves (by omega) (by omega) (by rw [h.1];exact hb) hX p2 s2 p3 s3
 exact ⟨permIn_trans _ _ _ _ _ p1 p,s,st1.trans (st2.trans st3)⟩
theorem Mrg.none {lt:α→α→Bool} {K:α→κ} {a b:Nat} {d:Array α} (h:SortedIn lt a b d):Mrg lt K a b d d:=⟨permIn_refl _ _ _,h,Stab.refl K d⟩
theorem Mrg.one_left {lt:α→α→Bool} {K:α→κ} (hS:SWO lt) (hK:∀x y,lt x y=true→K x≠K y) {a i b:Nat} {d d':Array α} (h:Rot a (a+1) i d d') (hi:a+1≤i) (hib:i≤b) (hb:b≤d.size) (hR:SortedIn lt (a+1) b d)
  (hlo:a+1<i→lt d[i-1]! d[a]! = true) (hhi:i<b→lt d[i]! d[a]! = false):Mrg lt K a b d d':=by
 have hL:SortedIn lt a (a+1) d:=fun i j h1 h2 h3=>by omega
 obtain ⟨p1,st1,_,s2,_,s4,hX⟩:=h.merge (K:=K) hS hK (Nat.le_refl _) (by omega) hi hib hb hL hR (fun h=>by omega) (fun _ h=>hlo h)
 refine ⟨p1,fun p q h1 h2 h3=>?_,st1⟩
 have e1:a+(i-(a+1))=i-1:=by omega
 rw [e1] at s2 hX
 by_cases c1:p<i-1
 ·by_cases c2:q<i-1
  ·exact s2 p q h1 h2 c2
  ·exact hX p q h1 c1 (by omega) h3
 ·by_cases c3:p=i-1
  ·rw [h.out (p:=q) (Or.inr (by omega)),h.hi (p:=p) (by omega) (by omega) hi,show p-(i-(a+1))=a by omega]
   exact SWO.le_le hS (hhi (by omega)) (SortedIn.le hS hR (by omega) (show i≤q by omega) h3)
  ·exact s4 p q (by omega) h2 h3
theorem Mrg.one_right {lt:α→α→Bool} {K:α→κ} (hS:SWO lt) (hK:∀x y,lt x y=true→K x≠K y) {a i m:Nat} {d d':Array α} (h:Rot i m (m+1) d d') (hai:a≤i) (him:i≤m) (hb:m+1≤d.size) (hL:SortedIn lt a m d)
  (hlo:a<i→lt d[m]! d[i-1]! = false) (hhi:i<m→lt d[m]! d[i]! = true):Mrg lt K a (m+1) d d':=by
 have hR:SortedIn lt m (m+1) d:=fun i j h1 h2 h3=>by omega
 obtain ⟨p1,st1,s1,_,s3,_,hX⟩:=h.merge (K:=K) hS hK hai him (by omega) (Nat.le_refl _) hb hL hR (fun _ h=>by omega) (fun h _=>by rw [show m+1-1=m by omega];exact hhi h)
 rw [show i+(m+1-m)=i+1 by omega] at s3 hX
 refine ⟨p1,fun p q h1 h2 h3=>?_,st1⟩
 by_cases c1:i+1≤q
 ·by_cases c2:i+1≤p
  ·exact s3 p q c2 h2 h3
  ·exact hX p q h1 (by omega) c1 h3
 ·by_cases c3:q=i
  ·rw [h.lo (p:=q) him (by omega) (by omega),h.out (p:=p) (Or.inl (by omega)),show q+(m-i)=m by omega]
   exact SWO.le_le hS (SortedIn.le hS hL h1 (show p≤i-1 by omega) (by omega)) (hlo (by omega))
  ·exact s1 p q h1 h2 (by omega)
end
section
theorem cb_self (a:List UInt8):Lib.compareBytes a a=0:=by
 induction a with
 | nil=>rfl
 | cons x a ih=>unfold Lib.compareBytes;simp [ih]
theorem cb_zero (a b:List UInt8):Lib.compareBytes a b=0↔a=b:=by
 constructor
 ·induction a generalizing b with
  | nil=>cases b with
   | nil=>intro _;rfl
   | cons y b=>intro h;simp [Lib.compareBytes] at h
  | cons x a ih=>cases b with
   | nil=>intro h;simp [Lib.compareBytes] at h
   | cons y b =>
    intro h
    unfold Lib.compareBytes at h
    split at h
    ·simp at h
    ·split at h
     ·simp at h
     ·rename_i h1 h2
      have:x=y:=by
       apply UInt8.toNat_inj.1
       rw [UInt8.lt_iff_toNat_lt] at h1 h2
       omega
      rw [this,ih b h]
 ·rintro rfl;exact cb_self a
theorem cb_neg (a b:List UInt8):Lib.compareBytes b a=- Lib.compareBytes a b:=by
 induction a generalizing b with
 | nil=>cases b<;>simp [Lib.compareBytes]
 | cons x a ih=>cases b with
  | nil=>simp [Lib.compareBytes]
  | cons y b =>
   unfold Lib.compareBytes
   by_cases h1:x<y
   ·have h2:¬ y<x:=by rw [UInt8.lt_iff_toNat_lt] at h1 ⊢;omega
    simp [h1,h2]
   ·by_cases h2:y<x
    ·simp [h1,h2]
    ·simp [h1,h2,ih b]
theorem cb_range (a b:List UInt8):Lib.compareBytes a b=-1∨Lib.compareBytes a b=0∨Lib.compareBytes a b=1:=by
 induction a generalizing b with
 | nil=>cases b<;>simp [Lib.compareBytes]
 | cons x a ih=>cases b with
  | nil=>simp [Lib.compareBytes]
  | cons y b =>
   unfold Lib.compareBytes
   by_cases h1:x<y
   ·simp [h1]
   ·by_cases h2:y<x
    ·simp [h1,h2]
    ·simpa [h1,h2] using ih b
theorem cb_lt_trans (a b c:List UInt8) (h1:Lib.compareBytes a b<0) (h2:Lib.compareBytes b c<0):Lib.compareBytes a c<0:=by
 induction a generalizing b c with
 | nil=>cases c with
  | nil=>cases b<;>simp [Lib.compareBytes] at h1 h2
  | cons z c=>simp [Lib.compareBytes]
 | cons x a ih=>cases b with
  | nil=>simp [Lib.compareBytes] at h1
  | cons y b=>cases c with
   | nil=>simp [Lib.compareBytes] at h2
   | cons z c =>
    unfold Lib.compareBytes at h1 h2 ⊢
    simp only [UInt8.lt_iff_toNat_lt] at h1 h2 ⊢
    by_cases p1:x.toNat<y.toNat
    ·by_cases q1:y.toNat<z.toNat
     ·rw [if_pos (by omega)];decide
     ·rw [if_neg q1] at h2
      by_cases q2:z.toNat<y.toNat
      ·rw [if_pos q2] at h2;simp at h2
      ·rw [if_pos (by omega)];decide
    ·rw [if_neg p1] at h1
     by_cases p2:y.toNat<x.toNat
     ·rw [if_pos p2] at h1;simp at h1
     ·rw [if_neg p2] at h1
      by_cases q1:y.toNat<z.toNat
      ·rw [if_pos (by omega)];decide
      ·rw [if_neg q1] at h2
       by_cases q2:z.toNat<y.toNat
       ·rw [if_pos q2] at h2;simp at h2
       ·rw [if_neg q2] at h2
        rw [if_neg (by omega),if_neg (by omega)]
        exact ih b c h1 h2
theorem cb_less (a b:List UInt8):decide (Lib.compareBytes a b<0)=Op.bytesLess a b:=by
 induction a generalizing b with
 | nil=>cases b<;>simp [Lib.compareBytes,Op.bytesLess]
 | cons x a ih=>cases b with
  | nil=>simp [Lib.compareBytes,Op.bytesLess]
  | cons y b =>
   unfold Lib.compareBytes Op.bytesLess
   rw [←ih b]
   by_cases h1:x<y
   ·simp [h1]
   ·by_cases h2:y<x
    ·have hne:(x==y)=false:=by
      rw [beq_eq_false_iff_ne];rintro rfl;exact h1 h2
     simp [h1,h2,hne]
    ·have he:x=y:=by
      apply UInt8.toNat_inj.1
      rw [UInt8.lt_iff_toNat_lt] at h1 h2
      omega
     simp [he]
def pairI (x y:Int):Int:=if x=0 then y else x
end
section
def bigB (n:Int):Bool:=decide (65≤n)&&decide (n≤90)
def smallB (n:Int):Bool:=decide (97≤n)&&decide (n≤122)
def digB (n:Int):Bool:=decide (48≤n)&&decide (n≤57)
def letB (n:Int):Bool:=bigB n||smallB n
def lodB (n:Int):Bool:=letB n||digB n
def idB (n:Int):Bool:=lodB n||n==45||n==46
def spell (f g:Int→Bool) (l:List UInt8):Bool :=
 match l with
 | []=>false
 | c::r=>decide (r.length+1≤32)&&f (c.toNat:Int)&&r.all fun x=>g (x.toNat:Int)
def typeB (l:List UInt8):Bool:=spell bigB letB l
def idenB (l:List UInt8):Bool:=spell idB idB l
def fieldB (l:List UInt8):Bool:=spell smallB lodB l
theorem spell_unfold (f g:Int→Bool) (s:ByteArray) (h:0<s.size) :
  spell f g s.data.toList=(decide (s.size≤32)&&f (s[0].toNat:Int)&&(s.data.toList.drop 1).all fun x=>g (x.toNat:Int)):=by
 obtain ⟨⟨l⟩⟩:=s
 cases l with
 | nil=>exact absurd h (Nat.lt_irrefl 0)
 | cons c r=>rfl
theorem spell_empty (f g:Int→Bool) (s:ByteArray) (h:s.size=0):spell f g s.data.toList=false:=by
 obtain ⟨⟨l⟩⟩:=s
 cases l with
 | nil=>rfl
 | cons c r=>exact absurd h (Nat.succ_ne_zero _)
theorem spell_long (f g:Int→Bool) (s:ByteArray) (h:32<s.size):spell f g s.data.toList=false:=by
 rw [spell_unfold f g s (by omega)]
 have:¬ s.size≤32:=by omega
 simp [this]
theorem spell_first (f g:Int→Bool) (s:ByteArray) (h:0<s.size) (hf:f (s[0].toNat:Int)=false):spell f g s.data.toList=false:=by
 rw [spell_unfold f g s h]
 simp [hf]
theorem byte_at (s:ByteArray) (k:Nat) (h:k<s.size):s.data.toList[k]'(by simpa using h)=s[k]:=rfl
theorem spell_at (f g:Int→Bool) (s:ByteArray) (k:Nat) (h1:1≤k) (h:k<s.size) (hg:g (s[k].toNat:Int)=false):spell f g s.data.toList=false:=by
 rw [spell_unfold f g s (by omega)]
 have:((s.data.toList.drop 1).all fun x=>g (x.toNat:Int))=false:=by
  rw [Bool.eq_false_iff]
  intro hall
  rw [List.all_eq_true] at hall
  have hl:k<s.data.toList.length:=by simpa using h
  have hm:s[k]∈s.data.toList.drop 1:=by
   rw [←byte_at s k h,List.mem_iff_getElem]
   refine ⟨k-1,by simp at hl ⊢;omega,?_⟩
   rw [List.getElem_drop]
   congr 1
   omega
  have:=hall _ hm
  rw [hg] at this
  cases this
 rw [this];simp
theorem spell_true (f g:Int→Bool) (s:ByteArray) (h:0<s.size) (h32:s.size≤32) (hf:f (s[0].toNat:Int)=true)
  (hg:∀k,1≤k→(hk:k<s.size)→g (s[k].toNat:Int)=true):spell f g s.data.toList=true:=by
 rw [spell_unfold f g s h]
 have:((s.data.toList.drop 1).all fun x=>g (x.toNat:Int))=true:=by
  rw [List.all_eq_true]
  intro x hx
  rw [List.mem_iff_getElem] at hx
  obtain ⟨j,hj,rfl⟩:=hx
  rw [List.getElem_drop]
  have hj2:1+j<s.size:=by simp at hj;omega
  exact hg (1+j) (by omega) hj2
 rw [this];simp [h32,hf]
end
section
open Go.RowKit
theorem hid {p:Prop} (h:p):Hid p:=h
theorem ret_bool {a b:Bool} (h:a=b):Ending.returned (.bool a)=.returned (.bool b):=by rw [h]
theorem ret_int {k:IntKind} {a b:Int} (h:a=b):Ending.returned (.int k a)=.returned (.int k b):=by rw [h]
set_option maxHeartbeats 400000 in
theorem big_any (n:Int) (w:World):Calls Tryz.prog 299 #[.int .u8 n] w fun e w'=>e=.returned (.bool (bigB n))∧w'=w:=by
 go_enter Tryz.func299,Tryz.ntmps299
 go_wp2
 all_goals go_ret
 all_goals refine ⟨ret_bool ?_,rfl⟩
 all_goals (rw [Bool.eq_iff_iff];simp [bigB];try omega)
set_option maxHeartbeats 400000 in
theorem small_any (n:Int) (w:World):Calls Tryz.prog 348 #[.int .u8 n] w fun e w'=>e=.returned (.bool (smallB n))∧w'=w:=by
 go_enter Tryz.func348,Tryz.ntmps348
 go_wp2
 all_goals go_ret
 all_goals refine ⟨ret_bool ?_,rfl⟩
 all_goals (rw [Bool.eq_iff_iff];simp [smallB];try omega)
set_option maxHeartbeats 400000 in
theorem letter_any (n:Int) (w:World):Calls Tryz.prog 300 #[.int .u8 n] w fun e w'=>e=.returned (.bool (letB n))∧w'=w:=by
 go_enter Tryz.func300,Tryz.ntmps300
 go_wp2
 all_goals go_ret
 all_goals refine ⟨ret_bool ?_,rfl⟩
 all_goals (rw [Bool.eq_iff_iff];simp [letB,bigB,smallB];try omega)
set_option maxHeartbeats 400000 in
theorem lod_any (n:Int) (w:World):Calls Tryz.prog 349 #[.int .u8 n] w fun e w'=>e=.returned (.bool (lodB n))∧w'=w:=by
 go_enter Tryz.func349,Tryz.ntmps349
 go_wp2
 all_goals go_ret
 all_goals refine ⟨ret_bool ?_,rfl⟩
 all_goals (rw [Bool.eq_iff_iff];simp [lodB,digB,letB,bigB,smallB];try omega)
end
section
open Go.RowKit
theorem bel_drewN {B:Nat} {a w:World} (h:Below B a w) (n:Nat):Below B a (w.drewN n):=⟨h.os,h.tape,h.output,h.size,h.block⟩
theorem bel_then {B:Nat} {a b c:World} (h:Below B a b) (hB:B≤b.heap.size) (k:Below b.heap.size b c):Below B a c:=h.trans (k.mono hB)
theorem Tryz.mixed:Tryz.prog.follows .mixedOrders=true:=by kernel_rfl
def Grown (w w':World):Prop:=∃q os,w'=Sort.grow (w.drewN q) os
theorem Grown.refl (w:World):Grown w w:=⟨0,#[],by rw [Sort.grow_empty];rfl⟩
theorem Grown.draws (w:World) (n:Nat):Grown w (w.drewN n):=⟨n,#[],by rw [Sort.grow_empty]⟩
theorem Grown.trans {a b c:World} (h:Grown a b) (k:Grown b c):Grown a c:=by
 obtain ⟨q,os,rfl⟩:=h
 obtain ⟨q',os',rfl⟩:=k
 exact ⟨q+q',os++os',by show Sort.grow (Sort.grow ((a.drewN q).drewN q') os) os'=_;rw [Sort.grow_grow,World.drewN_drewN]⟩
theorem Grown.alloc {a w:World} (h:Grown a w) (o:Obj):Grown a (w.alloc o):=h.trans ⟨0,#[o],by rw [Sort.alloc_eq_grow];rfl⟩
theorem Grown.drewN {a w:World} (h:Grown a w) (n:Nat):Grown a (w.drewN n):=h.trans (Grown.draws w n)
theorem Grown.on {a w:World} {q:Nat} {os:Array Obj} (h:Grown a w):Grown a (Sort.grow (w.drewN q) os):=h.trans ⟨q,os,rfl⟩
theorem Grown.below {w w':World} (h:Grown w w'):Below w.heap.size w w':=by
 obtain ⟨q,os,rfl⟩:=h
 refine ⟨rfl,rfl,rfl,by simp [Sort.grow,World.drewN],fun k hk=>?_⟩
 show (w.heap++os)[k]? = w.heap[k]?
 rw [Array.getElem?_append_left hk]
end
section
open Go.RowKit
set_option maxHeartbeats 800000 in
theorem spelled_field (s:ByteArray) (w:World) (hs:s.size≤maxLen) :
  Calls Tryz.prog 298 #[.string s,.func (.func 348) #[] #[],.func (.func 349) #[] #[]] w fun e w'=>e=.returned (.bool (fieldB s.data.toList))∧w'=w:=by
 unfold maxLen at hs
 by_cases he:s.size=0
 ·have hb:=spell_empty smallB lodB s he
  have hlt:(s.size:Int)<1:=by omega
  have HB:Hid (spell smallB lodB s.data.toList=false):=hb
  clear he hb
  go_enter Tryz.func298,Tryz.ntmps298
  go_wp2_with fail
  go_ret
  exact ⟨ret_bool HB.out.symm,rfl⟩
 have hpos:0<s.size:=by omega
 have hnl:¬ (s.size:Int)<1:=by omega
 by_cases hl:32<s.size
 ·have hb:=spell_long smallB lodB s hl
  have HB:Hid (spell smallB lodB s.data.toList=false):=hb
  have hgt:(32:Int)<(s.size:Int):=by omega
  clear he hb
  go_enter Tryz.func298,Tryz.ntmps298
  go_wp2_with fail
  go_ret
  exact ⟨ret_bool HB.out.symm,rfl⟩
 have hle:¬ (32:Int)<(s.size:Int):=by omega
 clear he
 cases hc:smallB (s[0].toNat:Int) with
 | false =>
  have HB:Hid (spell smallB lodB s.data.toList=false):=spell_first smallB lodB s hpos hc
  go_enter Tryz.func298,Tryz.ntmps298
  go_wp2_with (go_at_call 348;refine (small_any _ _).mono ?_;rintro e w' ⟨rfl,rfl⟩)
  go_ret
  exact ⟨ret_bool HB.out.symm,rfl⟩
 | true =>
  have HT:Hid ((∀k,1≤k→(hk:k<s.size)→lodB (s[k].toNat:Int)=true)→spell smallB lodB s.data.toList=true):=spell_true smallB lodB s hpos (by omega) hc
  have HA:Hid (∀k,1≤k→(hk:k<s.size)→lodB (s[k].toNat:Int)=false→spell smallB lodB s.data.toList=false):=fun k h1 hk=>spell_at smallB lodB s k h1 hk
  go_enter Tryz.func298,Tryz.ntmps298
  go_wp2_with (go_at_call 348;refine (small_any _ _).mono ?_;rintro e w' ⟨rfl,rfl⟩)
  go_loop [7] (fun i=>∃k:Nat,1≤k∧k≤s.size∧i=.int .i64 k∧(∀j,1≤j→j<k→(hj:j<s.size)→lodB (s[j].toNat:Int)=true)) (fun i=>s.size-(intOf i).toNat)
  case atStart=>exact ⟨1,by omega,by omega,rfl,fun j h1 h2=>by omega⟩
  case round =>
   obtain ⟨k,hk1,hk,rfl,hall⟩:=hrel
   have HL:Hid (∀j,1≤j→j<k→(hj:j<s.size)→lodB (s[j].toNat:Int)=true):=hall
   clear hall
   by_cases hlt:k<s.size
   ·cases hd:lodB (s[k].toNat:Int) with
    | false =>
     go_wp2_with (go_at_call 349;refine (lod_any _ _).mono ?_;rintro e w' ⟨rfl,rfl⟩)
     go_ret
     exact ⟨ret_bool (HA.out k hk1 hlt hd).symm,rfl⟩
    | true =>
     go_wp2_with (go_at_call 349;refine (lod_any _ _).mono ?_;rintro e w' ⟨rfl,rfl⟩)
     go_round
     case rel =>
      refine ⟨k+1,by omega,by omega,by go_num,fun j h1 h2 hj=>?_⟩
      by_cases hjk:j=k
      ·subst hjk;exact hd
      ·exact HL.out j h1 (by omega) hj
     case measure=>simp [intOf];omega
   ·go_wp2_with fail
    go_ret
    exact ⟨ret_bool (HT.out fun j h1 hj=>HL.out j h1 (by omega) hj).symm,rfl⟩
set_option maxHeartbeats 400000 in
theorem field_any (s:ByteArray) (w:World) (hs:s.size≤maxLen) :
  Calls Tryz.prog 318 #[.string s] w fun e w'=>e=.returned (.bool (fieldB s.data.toList))∧w'=w:=by
 go_enter Tryz.func318,Tryz.ntmps318
 go_wp2_with (go_at_call 298;refine (spelled_field _ _ hs).mono ?_;rintro e w' ⟨rfl,rfl⟩)
 go_ret
 exact ⟨rfl,rfl⟩
end
end Go.Proofs.YtmhlcnmfbolgdaaGreat
namespace Go.Proofs
open Go.Shelf
def Tryz.lays106_ren:Go.Shelf.Ren:=⟨fun|106=>251|213=>324|265=>369|n=>n,fun|9=>9|3=>3|n=>n,fun|n=>n⟩
theorem Tryz.lays106:Go.Proofs.Lays.n106 Tryz.prog Tryz.lays106_ren:={
 mixed:=by kernel_rfl
 f106:=Tryz.func251.trans (congrArg some (by kernel_rfl))
 f213:=Tryz.func324.trans (congrArg some (by kernel_rfl))
 f265:=Tryz.func369.trans (congrArg some (by kernel_rfl))
 t3:=Tryz.underlying3
 a3:=Tryz.isAgg3
 z3:=Tryz.sizeOf3
 v3:=Tryz.zeroValue3
 t9:=Tryz.underlying9
 a9:=Tryz.isAgg9
 z9:=Tryz.sizeOf9
 v9:=Tryz.zeroValue9 }
open Go.RowKit in
theorem Tryz.strings_Compare (a b:ByteArray) (w:World) :
  Calls Tryz.prog 251 #[.string a,.string b] w fun e w'=>e=.returned (.int .i64 (Lib.compareBytes a.data.toList b.data.toList))∧w'=w:=Any.strings_Compare Tryz.lays106 a b w
def Tryz.lays219_ren:Go.Shelf.Ren:=⟨fun|219=>407|217=>410|225=>411|224=>412|267=>413|266=>414|314=>415|n=>n,fun|9=>9|3=>3|4=>4|5=>5|46=>388|146=>450|51=>418|n=>n,fun|1=>0|n=>n⟩
theorem Tryz.lays219:Go.Proofs.Lays.n219 Tryz.prog Tryz.lays219_ren:={
 mixed:=by kernel_rfl
 f217:=Tryz.func410.trans (congrArg some (by kernel_rfl))
 f219:=Tryz.func407.trans (congrArg some (by kernel_rfl))
 f224:=Tryz.func412.trans (congrArg some (by kernel_rfl))
 f225:=Tryz.func411.trans (congrArg some (by kernel_rfl))
 f266:=Tryz.func414.trans (congrArg some (by kernel_rfl))
 f267:=Tryz.func413.trans (congrArg some (by kernel_rfl))
 f314:=Tryz.func415.trans (congrArg some (by kernel_rfl))
 t3:=Tryz.underlying3
 a3:=Tryz.isAgg3
 z3:=Tryz.sizeOf3
 v3:=Tryz.zeroValue3
 t4:=Tryz.underlying4
 a4:=Tryz.isAgg4
 z4:=Tryz.sizeOf4
 v4:=Tryz.zeroValue4
 t5:=Tryz.underlying5
 a5:=Tryz.isAgg5
 z5:=Tryz.sizeOf5
 v5:=Tryz.zeroValue5
 t9:=Tryz.underlying9
 a9:=Tryz.isAgg9
 z9:=Tryz.sizeOf9
 v9:=Tryz.zeroValue9
 t46:=Tryz.underlying388
 a46:=Tryz.isAgg388
 z46:=Tryz.sizeOf388
 v46:=Tryz.zeroValue388
 t51:=Tryz.underlying418
 a51:=Tryz.isAgg418
 z51:=Tryz.sizeOf418
 v51:=Tryz.zeroValue418
 t146:=Tryz.underlying450
 a146:=Tryz.isAgg450
 z146:=Tryz.sizeOf450
 v146:=Tryz.zeroValue450
 g1:=by kernel_rfl }
open Go.RowKit Go.Lib in
theorem Tryz.stringslite_Index_one (s:ByteArray) (c:UInt8) (w:World) :
  Calls Tryz.prog 407 #[.string s,.string ⟨#[c]⟩] w fun e w'=>e=.returned (.int .i64 (Lib.indexByte s.data.toList c))∧w'=w:=Any.stringslite_Index_one Tryz.lays219 s c w
def Tryz.lays144_ren:Go.Shelf.Ren:=⟨fun|144=>371|143=>398|219=>407|217=>410|225=>411|224=>412|267=>413|266=>414|314=>415|n=>n,fun|9=>9|4=>4|3=>3|5=>5|46=>388|146=>450|51=>418|n=>n,fun|1=>0|n=>n⟩
theorem Tryz.lays144:Go.Proofs.Lays.n144 Tryz.prog Tryz.lays144_ren:={
 mixed:=by kernel_rfl
 f143:=Tryz.func398.trans (congrArg some (by kernel_rfl))
 f144:=Tryz.func371.trans (congrArg some (by kernel_rfl))
 f217:=Tryz.func410.trans (congrArg some (by kernel_rfl))
 f219:=Tryz.func407.trans (congrArg some (by kernel_rfl))
 f224:=Tryz.func412.trans (congrArg some (by kernel_rfl))
 f225:=Tryz.func411.trans (congrArg some (by kernel_rfl))
 f266:=Tryz.func414.trans (congrArg some (by kernel_rfl))
 f267:=Tryz.func413.trans (congrArg some (by kernel_rfl))
 f314:=Tryz.func415.trans (congrArg some (by kernel_rfl))
 t3:=Tryz.underlying3
 a3:=Tryz.isAgg3
 z3:=Tryz.sizeOf3
 v3:=Tryz.zeroValue3
 t4:=Tryz.underlying4
 a4:=Tryz.isAgg4
 z4:=Tryz.sizeOf4
 v4:=Tryz.zeroValue4
 t5:=Tryz.underlying5
 a5:=Tryz.isAgg5
 z5:=Tryz.sizeOf5
 v5:=Tryz.zeroValue5
 t9:=Tryz.underlying9
 a9:=Tryz.isAgg9
 z9:=Tryz.sizeOf9
 v9:=Tryz.zeroValue9
 t46:=Tryz.underlying388
 a46:=Tryz.isAgg388
 z46:=Tryz.sizeOf388
 v46:=Tryz.zeroValue388
 t51:=Tryz.underlying418
 a51:=Tryz.isAgg418
 z51:=Tryz.sizeOf418
 v51:=Tryz.zeroValue418
 t146:=Tryz.underlying450
 a146:=Tryz.isAgg450
 z146:=Tryz.sizeOf450
 v146:=Tryz.zeroValue450
 g1:=by kernel_rfl }
open Go.RowKit Go.Lib in
theorem Tryz.strings_Contains_one (s:ByteArray) (c:UInt8) (w:World) :
  Calls Tryz.prog 371 #[.string s,.string ⟨#[c]⟩] w fun e w'=>e=.returned (.bool (decide (0≤Lib.indexByte s.data.toList c)))∧w'=w:=Any.strings_Contains_one Tryz.lays144 s c w
def Tryz.laysNm216_ren:Go.Shelf.Ren:=⟨fun|16=>226|n=>n,fun|24=>129|9=>9|4=>4|n=>n,fun|n=>n⟩
theorem Tryz.laysNm216:Go.Proofs.Lays2.n16 Tryz.prog Tryz.laysNm216_ren:={
 mixed:=by kernel_rfl
 f16:=Tryz.func226.trans (congrArg some (by kernel_rfl))
 t4:=Tryz.underlying4
 a4:=Tryz.isAgg4
 z4:=Tryz.sizeOf4
 v4:=Tryz.zeroValue4
 t9:=Tryz.underlying9
 a9:=Tryz.isAgg9
 z9:=Tryz.sizeOf9
 v9:=Tryz.zeroValue9
 t24:=Tryz.underlying129
 a24:=Tryz.isAgg129
 z24:=Tryz.sizeOf129
 v24:=Tryz.zeroValue129
 i9:=by kernel_rfl }
open Go.RowKit Go.Lib in
theorem Tryz.slices_Clone_string (b off n c:Nat) (zs:List ByteArray) (w:World) (hz:n≤zs.length) (hbig:n * 16≤140737488355328) (hc:∀j,j<zs.length→w.cell? ⟨b,off+j,none⟩=some (.string (zs.getD j ByteArray.empty))) :
  Calls Tryz.prog 226 #[.slice (some ⟨b,off,none⟩) n c] w fun e w'=>∃v',e=.returned v'∧w'.ownsRow w.heap.size 9 1 v' n ((zs.take n).map (Value.string))∧v'≠.slice none 0 0∧Below w.heap.size w w':=Any.slices_Clone_string Tryz.laysNm216 b off n c zs w hz hbig hc
open Go.RowKit Go.Lib in
theorem Tryz.slices_Clone_string_nil (n c:Nat) (w:World) :
  Calls Tryz.prog 226 #[.slice none n c] w fun e w'=>e=.returned (.slice none 0 0)∧w'=w:=Any.slices_Clone_string_nil Tryz.laysNm216 n c w
open Go.RowKit Go.Lib in
theorem Tryz.slices_Clone_string_zero (a:Addr) (c:Nat) (w:World) :
  Calls Tryz.prog 226 #[.slice (some a) 0 c] w fun e w'=>∃v',e=.returned v'∧w'.ownsRow w.heap.size 9 1 v' 0 []∧v'≠.slice none 0 0∧Below w.heap.size w w':=Any.slices_Clone_string_zero Tryz.laysNm216 a c w
def Tryz.laysSlH8_f304_ren:Go.Shelf.Ren:=⟨fun|8=>304|6=>350|n=>n,fun|22=>129|23=>9|25=>323|4=>4|3=>3|0=>0|n=>n,fun|n=>n⟩
theorem Tryz.laysSlH8_f304:Go.Proofs.SlLaysH.n8 Tryz.prog Tryz.laysSlH8_f304_ren:={
 mixed:=by kernel_rfl
 f6:=⟨Tryz.f350.name,by decide,Tryz.func350.trans (congrArg some (by kernel_rfl))⟩
 f8:=⟨Tryz.f304.name,by decide,Tryz.func304.trans (congrArg some (by kernel_rfl))⟩
 t0:=Tryz.underlying0
 a0:=Tryz.isAgg0
 z0:=Tryz.sizeOf0
 v0:=Tryz.zeroValue0
 t3:=Tryz.underlying3
 a3:=Tryz.isAgg3
 z3:=Tryz.sizeOf3
 v3:=Tryz.zeroValue3
 t4:=Tryz.underlying4
 a4:=Tryz.isAgg4
 z4:=Tryz.sizeOf4
 v4:=Tryz.zeroValue4
 t22:=Tryz.underlying129
 a22:=Tryz.isAgg129
 z22:=Tryz.sizeOf129
 v22:=Tryz.zeroValue129
 a23:=Tryz.isAgg9
 z23:=Tryz.sizeOf9
 t25:=Tryz.underlying323
 a25:=Tryz.isAgg323
 z25:=Tryz.sizeOf323
 v25:=Tryz.zeroValue323 }
open Go.RowKit Go.Lib in
theorem Tryz.slices_ContainsFunc {α:Type} [Inhabited α] (enc:α→Value) (p:α→Bool) (g:Nat) (lb:Array Value) (eg:∀args w,(callFunc g args).run Tryz.prog w=.ok (.enter g args) w) (b off n c:Nat) (zs:List α) (w:World) (hp:PredAt Tryz.prog g lb enc p w) (hz:n≤zs.length) (hbig:n≤9223372036854775807) (hc:∀j,j<zs.length→w.cell? ⟨b,off+j,none⟩=some (enc zs[j]!)) :
  Calls Tryz.prog 304 #[.slice (some ⟨b,off,none⟩) n c,.func (.func g) #[] lb] w fun e w'=>e=.returned (.bool ((zs.take n).any p))∧∃q,w'=w.drewN q:=AnyE.slices_ContainsFunc Tryz.laysSlH8_f304 enc p g lb eg b off n c zs w hp hz hbig hc
open Go.RowKit Go.Lib in
theorem Tryz.slices_ContainsFunc_empty {α:Type} [Inhabited α] (a:Option Addr) (c:Nat) (fv:Value) (w:World) :
  Calls Tryz.prog 304 #[.slice a 0 c,fv] w fun e w'=>e=.returned (.bool false)∧w'=w:=AnyE.slices_ContainsFunc_empty Tryz.laysSlH8_f304 a c fv w
def Tryz.lays122_ren:Go.Shelf.Ren:=⟨fun|122=>321|215=>367|n=>n,fun|3=>3|4=>4|n=>n,fun|n=>n⟩
theorem Tryz.lays122:Go.Proofs.Lays.n122 Tryz.prog Tryz.lays122_ren:={
 mixed:=by kernel_rfl
 f122:=Tryz.func321.trans (congrArg some (by kernel_rfl))
 f215:=Tryz.func367.trans (congrArg some (by kernel_rfl))
 t3:=Tryz.underlying3
 a3:=Tryz.isAgg3
 z3:=Tryz.sizeOf3
 v3:=Tryz.zeroValue3
 t4:=Tryz.underlying4
 a4:=Tryz.isAgg4
 z4:=Tryz.sizeOf4
 v4:=Tryz.zeroValue4 }
open Go.RowKit in
theorem Tryz.cmp_Compare_int (x y:Int) (w:World) :
  Calls Tryz.prog 321 #[.int .i64 x,.int .i64 y] w fun e w'=>e=.returned (.int .i64 (Lib.compareInt x y))∧w'=w:=Any.cmp_Compare_int Tryz.lays122 x y w
def Tryz.lays99_ren:Go.Shelf.Ren:=⟨fun|99=>328|206=>372|n=>n,fun|9=>9|4=>4|3=>3|n=>n,fun|n=>n⟩
theorem Tryz.lays99:Go.Proofs.Lays.n99 Tryz.prog Tryz.lays99_ren:={
 mixed:=by kernel_rfl
 f99:=Tryz.func328.trans (congrArg some (by kernel_rfl))
 f206:=Tryz.func372.trans (congrArg some (by kernel_rfl))
 t3:=Tryz.underlying3
 a3:=Tryz.isAgg3
 z3:=Tryz.sizeOf3
 v3:=Tryz.zeroValue3
 t4:=Tryz.underlying4
 a4:=Tryz.isAgg4
 z4:=Tryz.sizeOf4
 v4:=Tryz.zeroValue4
 t9:=Tryz.underlying9
 a9:=Tryz.isAgg9
 z9:=Tryz.sizeOf9
 v9:=Tryz.zeroValue9 }
open Go.RowKit Go.Lib in
theorem Tryz.strings_HasPrefix (s p:ByteArray) (w:World) :
  Calls Tryz.prog 328 #[.string s,.string p] w fun e w'=>e=.returned (.bool (Lib.hasPrefix s.data.toList p.data.toList))∧w'=w:=Any.strings_HasPrefix Tryz.lays99 s p w
def Tryz.lays125_ren:Go.Shelf.Ren:=⟨fun|125=>320|128=>365|129=>366|n=>n,fun|46=>388|3=>3|51=>418|53=>22|4=>4|5=>5|9=>9|n=>n,fun|n=>n⟩
theorem Tryz.lays125:Go.Proofs.Lays.n125 Tryz.prog Tryz.lays125_ren:={
 mixed:=by kernel_rfl
 f125:=Tryz.func320.trans (congrArg some (by kernel_rfl))
 f128:=Tryz.func365.trans (congrArg some (by kernel_rfl))
 f129:=Tryz.func366.trans (congrArg some (by kernel_rfl))
 t3:=Tryz.underlying3
 a3:=Tryz.isAgg3
 z3:=Tryz.sizeOf3
 v3:=Tryz.zeroValue3
 t4:=Tryz.underlying4
 a4:=Tryz.isAgg4
 z4:=Tryz.sizeOf4
 v4:=Tryz.zeroValue4
 t5:=Tryz.underlying5
 a5:=Tryz.isAgg5
 z5:=Tryz.sizeOf5
 v5:=Tryz.zeroValue5
 t9:=Tryz.underlying9
 a9:=Tryz.isAgg9
 z9:=Tryz.sizeOf9
 v9:=Tryz.zeroValue9
 t46:=Tryz.underlying388
 a46:=Tryz.isAgg388
 z46:=Tryz.sizeOf388
 v46:=Tryz.zeroValue388
 t51:=Tryz.underlying418
 a51:=Tryz.isAgg418
 z51:=Tryz.sizeOf418
 v51:=Tryz.zeroValue418
 t53:=Tryz.underlying22
 a53:=Tryz.isAgg22
 z53:=Tryz.sizeOf22
 v53:=Tryz.zeroValue22 }
theorem Tryz.bits_Len (x:Int) (w:World) (h0:0≤x) (h1:x≤18446744073709551615) :
  Calls Tryz.prog 320 #[.int .u64 x] w fun e w'=>e=.returned (.int .i64 (Lib.bitLen x.toNat))∧w'=w:=Any.bits_Len Tryz.lays125 x w h0 h1
def Tryz.insFnd_ren:Go.Shelf.Ren:=⟨fun|20=>322|n=>n,fun|24=>110|22=>47|3=>3|25=>279|4=>4|0=>0|n=>n,fun|n=>n⟩
theorem Tryz.insFnd:Go.Proofs.SlLaysF0.n20 Tryz.prog Tryz.insFnd_ren:={
 mixed:=by kernel_rfl
 f20:=⟨Tryz.f322.name,by decide,Tryz.func322.trans (congrArg some (by kernel_rfl))⟩
 t0:=Tryz.underlying0
 a0:=Tryz.isAgg0
 z0:=Tryz.sizeOf0
 v0:=Tryz.zeroValue0
 t3:=Tryz.underlying3
 a3:=Tryz.isAgg3
 z3:=Tryz.sizeOf3
 v3:=Tryz.zeroValue3
 t4:=Tryz.underlying4
 a4:=Tryz.isAgg4
 z4:=Tryz.sizeOf4
 v4:=Tryz.zeroValue4
 t22:=Tryz.underlying47
 a22:=Tryz.isAgg47
 z22:=Tryz.sizeOf47
 v22:=Tryz.zeroValue47
 t25:=Tryz.underlying279
 a25:=Tryz.isAgg279
 z25:=Tryz.sizeOf279
 v25:=Tryz.zeroValue279 }
def Tryz.hasTrm_ren:Go.Shelf.Ren:=⟨fun|8=>240|6=>317|n=>n,fun|22=>41|23=>122|25=>338|4=>4|3=>3|0=>0|n=>n,fun|n=>n⟩
theorem Tryz.hasTrm:Go.Proofs.SlLaysH0.n8 Tryz.prog Tryz.hasTrm_ren:={
 mixed:=by kernel_rfl
 f6:=⟨Tryz.f317.name,by decide,Tryz.func317.trans (congrArg some (by kernel_rfl))⟩
 f8:=⟨Tryz.f240.name,by decide,Tryz.func240.trans (congrArg some (by kernel_rfl))⟩
 t0:=Tryz.underlying0
 a0:=Tryz.isAgg0
 z0:=Tryz.sizeOf0
 v0:=Tryz.zeroValue0
 t3:=Tryz.underlying3
 a3:=Tryz.isAgg3
 z3:=Tryz.sizeOf3
 v3:=Tryz.zeroValue3
 t4:=Tryz.underlying4
 a4:=Tryz.isAgg4
 z4:=Tryz.sizeOf4
 v4:=Tryz.zeroValue4
 t22:=Tryz.underlying41
 a22:=Tryz.isAgg41
 z22:=Tryz.sizeOf41
 v22:=Tryz.zeroValue41
 t25:=Tryz.underlying338
 a25:=Tryz.isAgg338
 z25:=Tryz.sizeOf338
 v25:=Tryz.zeroValue338 }
def Tryz.sortTrm_ren:Go.Shelf.Ren:=⟨fun|6=>245|15=>320|14=>319|28=>365|29=>366|20=>357|21=>358|22=>359|23=>360|24=>361|25=>362|26=>363|27=>364|46=>391|47=>392|48=>393|49=>394|50=>395|57=>405|n=>n,fun|22=>41|24=>122|25=>341|3=>3|39=>388|0=>0|53=>418|55=>22|4=>4|46=>412|45=>411|50=>396|5=>5|9=>9|66=>432|70=>435|76=>443|77=>444|n=>n,fun|n=>n⟩
theorem Tryz.sortTrm:Go.Proofs.SlLaysF0.n6 Tryz.prog Tryz.sortTrm_ren:={
 mixed:=by kernel_rfl
 f6:=⟨Tryz.f245.name,by decide,Tryz.func245.trans (congrArg some (by kernel_rfl))⟩
 f14:=⟨Tryz.f319.name,by decide,Tryz.func319.trans (congrArg some (by kernel_rfl))⟩
 f15:=Tryz.func320.trans (congrArg some (by kernel_rfl))
 f20:=⟨Tryz.f357.name,by decide,Tryz.func357.trans (congrArg some (by kernel_rfl))⟩
 f21:=⟨Tryz.f358.name,by decide,Tryz.func358.trans (congrArg some (by kernel_rfl))⟩
 f22:=⟨Tryz.f359.name,by decide,Tryz.func359.trans (congrArg some (by kernel_rfl))⟩
 f23:=⟨Tryz.f360.name,by decide,Tryz.func360.trans (congrArg some (by kernel_rfl))⟩
 f24:=⟨Tryz.f361.name,by decide,Tryz.func361.trans (congrArg some (by kernel_rfl))⟩
 f25:=⟨Tryz.f362.name,by decide,Tryz.func362.trans (congrArg some (by kernel_rfl))⟩
 f26:=⟨Tryz.f363.name,by decide,Tryz.func363.trans (congrArg some (by kernel_rfl))⟩
 f27:=⟨Tryz.f364.name,by decide,Tryz.func364.trans (congrArg some (by kernel_rfl))⟩
 f28:=Tryz.func365.trans (congrArg some (by kernel_rfl))
 f29:=Tryz.func366.trans (congrArg some (by kernel_rfl))
 f46:=⟨Tryz.f391.name,by decide,Tryz.func391.trans (congrArg some (by kernel_rfl))⟩
 f47:=Tryz.func392.trans (congrArg some (by kernel_rfl))
 f48:=Tryz.func393.trans (congrArg some (by kernel_rfl))
 f49:=⟨Tryz.f394.name,by decide,Tryz.func394.trans (congrArg some (by kernel_rfl))⟩
 f50:=⟨Tryz.f395.name,by decide,Tryz.func395.trans (congrArg some (by kernel_rfl))⟩
 f57:=⟨Tryz.f405.name,by decide,Tryz.func405.trans (congrArg some (by kernel_rfl))⟩
 t0:=Tryz.underlying0
 a0:=Tryz.isAgg0
 z0:=Tryz.sizeOf0
 v0:=Tryz.zeroValue0
 t3:=Tryz.underlying3
 a3:=Tryz.isAgg3
 z3:=Tryz.sizeOf3
 v3:=Tryz.zeroValue3
 t4:=Tryz.underlying4
 a4:=Tryz.isAgg4
 z4:=Tryz.sizeOf4
 v4:=Tryz.zeroValue4
 t5:=Tryz.underlying5
 a5:=Tryz.isAgg5
 z5:=Tryz.sizeOf5
 v5:=Tryz.zeroValue5
 t9:=Tryz.underlying9
 a9:=Tryz.isAgg9
 z9:=Tryz.sizeOf9
 v9:=Tryz.zeroValue9
 t22:=Tryz.underlying41
 a22:=Tryz.isAgg41
 z22:=Tryz.sizeOf41
 v22:=Tryz.zeroValue41
 t25:=Tryz.underlying341
 a25:=Tryz.isAgg341
 z25:=Tryz.sizeOf341
 v25:=Tryz.zeroValue341
 t39:=Tryz.underlying388
 a39:=Tryz.isAgg388
 z39:=Tryz.sizeOf388
 v39:=Tryz.zeroValue388
 t45:=Tryz.underlying411
 a45:=Tryz.isAgg411
 z45:=Tryz.sizeOf411
 v45:=Tryz.zeroValue411
 t46:=Tryz.underlying412
 a46:=Tryz.isAgg412
 z46:=Tryz.sizeOf412
 v46:=Tryz.zeroValue412
 t50:=Tryz.underlying396
 a50:=Tryz.isAgg396
 z50:=Tryz.sizeOf396
 v50:=Tryz.zeroValue396
 t53:=Tryz.underlying418
 a53:=Tryz.isAgg418
 z53:=Tryz.sizeOf418
 v53:=Tryz.zeroValue418
 t55:=Tryz.underlying22
 a55:=Tryz.isAgg22
 z55:=Tryz.sizeOf22
 v55:=Tryz.zeroValue22
 t66:=Tryz.underlying432
 a66:=Tryz.isAgg432
 z66:=Tryz.sizeOf432
 v66:=Tryz.zeroValue432
 t70:=Tryz.underlying435
 a70:=Tryz.isAgg435
 z70:=Tryz.sizeOf435
 v70:=Tryz.zeroValue435
 t76:=Tryz.underlying443
 a76:=Tryz.isAgg443
 z76:=Tryz.sizeOf443
 v76:=Tryz.zeroValue443
 t77:=Tryz.underlying444
 a77:=Tryz.isAgg444
 z77:=Tryz.sizeOf444
 v77:=Tryz.zeroValue444 }
def Tryz.cloneKey_ren:Go.Shelf.Ren:=⟨fun|41=>248|n=>n,fun|22=>50|23=>39|4=>4|n=>n,fun|n=>n⟩
theorem Tryz.cloneKey:Go.Proofs.SlLaysE0.n41 Tryz.prog Tryz.cloneKey_ren:={
 mixed:=by kernel_rfl
 f41:=⟨Tryz.f248.name,by decide,Tryz.func248.trans (congrArg some (by kernel_rfl))⟩
 t4:=Tryz.underlying4
 a4:=Tryz.isAgg4
 z4:=Tryz.sizeOf4
 v4:=Tryz.zeroValue4
 t22:=Tryz.underlying50
 a22:=Tryz.isAgg50
 z22:=Tryz.sizeOf50
 v22:=Tryz.zeroValue50 }
def Tryz.sortKey_ren:Go.Shelf.Ren:=⟨fun|6=>256|15=>320|14=>333|28=>365|29=>366|20=>373|21=>374|22=>375|23=>376|24=>377|25=>378|26=>379|27=>380|46=>399|47=>392|48=>393|49=>400|50=>401|57=>408|n=>n,fun|22=>50|24=>39|25=>278|3=>3|39=>388|0=>0|53=>418|55=>22|4=>4|46=>412|45=>411|50=>396|5=>5|9=>9|66=>432|70=>435|76=>443|77=>444|n=>n,fun|n=>n⟩
theorem Tryz.sortKey:Go.Proofs.SlLaysF0.n6 Tryz.prog Tryz.sortKey_ren:={
 mixed:=by kernel_rfl
 f6:=⟨Tryz.f256.name,by decide,Tryz.func256.trans (congrArg some (by kernel_rfl))⟩
 f14:=⟨Tryz.f333.name,by decide,Tryz.func333.trans (congrArg some (by kernel_rfl))⟩
 f15:=Tryz.func320.trans (congrArg some (by kernel_rfl))
 f20:=⟨Tryz.f373.name,by decide,Tryz.func373.trans (congrArg some (by kernel_rfl))⟩
 f21:=⟨Tryz.f374.name,by decide,Tryz.func374.trans (congrArg some (by kernel_rfl))⟩
 f22:=⟨Tryz.f375.name,by decide,Tryz.func375.trans (congrArg some (by kernel_rfl))⟩
 f23:=⟨Tryz.f376.name,by decide,Tryz.func376.trans (congrArg some (by kernel_rfl))⟩
 f24:=⟨Tryz.f377.name,by decide,Tryz.func377.trans (congrArg some (by kernel_rfl))⟩
 f25:=⟨Tryz.f378.name,by decide,Tryz.func378.trans (congrArg some (by kernel_rfl))⟩
 f26:=⟨Tryz.f379.name,by decide,Tryz.func379.trans (congrArg some (by kernel_rfl))⟩
 f27:=⟨Tryz.f380.name,by decide,Tryz.func380.trans (congrArg some (by kernel_rfl))⟩
 f28:=Tryz.func365.trans (congrArg some (by kernel_rfl))
 f29:=Tryz.func366.trans (congrArg some (by kernel_rfl))
 f46:=⟨Tryz.f399.name,by decide,Tryz.func399.trans (congrArg some (by kernel_rfl))⟩
 f47:=Tryz.func392.trans (congrArg some (by kernel_rfl))
 f48:=Tryz.func393.trans (congrArg some (by kernel_rfl))
 f49:=⟨Tryz.f400.name,by decide,Tryz.func400.trans (congrArg some (by kernel_rfl))⟩
 f50:=⟨Tryz.f401.name,by decide,Tryz.func401.trans (congrArg some (by kernel_rfl))⟩
 f57:=⟨Tryz.f408.name,by decide,Tryz.func408.trans (congrArg some (by kernel_rfl))⟩
 t0:=Tryz.underlying0
 a0:=Tryz.isAgg0
 z0:=Tryz.sizeOf0
 v0:=Tryz.zeroValue0
 t3:=Tryz.underlying3
 a3:=Tryz.isAgg3
 z3:=Tryz.sizeOf3
 v3:=Tryz.zeroValue3
 t4:=Tryz.underlying4
 a4:=Tryz.isAgg4
 z4:=Tryz.sizeOf4
 v4:=Tryz.zeroValue4
 t5:=Tryz.underlying5
 a5:=Tryz.isAgg5
 z5:=Tryz.sizeOf5
 v5:=Tryz.zeroValue5
 t9:=Tryz.underlying9
 a9:=Tryz.isAgg9
 z9:=Tryz.sizeOf9
 v9:=Tryz.zeroValue9
 t22:=Tryz.underlying50
 a22:=Tryz.isAgg50
 z22:=Tryz.sizeOf50
 v22:=Tryz.zeroValue50
 t25:=Tryz.underlying278
 a25:=Tryz.isAgg278
 z25:=Tryz.sizeOf278
 v25:=Tryz.zeroValue278
 t39:=Tryz.underlying388
 a39:=Tryz.isAgg388
 z39:=Tryz.sizeOf388
 v39:=Tryz.zeroValue388
 t45:=Tryz.underlying411
 a45:=Tryz.isAgg411
 z45:=Tryz.sizeOf411
 v45:=Tryz.zeroValue411
 t46:=Tryz.underlying412
 a46:=Tryz.isAgg412
 z46:=Tryz.sizeOf412
 v46:=Tryz.zeroValue412
 t50:=Tryz.underlying396
 a50:=Tryz.isAgg396
 z50:=Tryz.sizeOf396
 v50:=Tryz.zeroValue396
 t53:=Tryz.underlying418
 a53:=Tryz.isAgg418
 z53:=Tryz.sizeOf418
 v53:=Tryz.zeroValue418
 t55:=Tryz.underlying22
 a55:=Tryz.isAgg22
 z55:=Tryz.sizeOf22
 v55:=Tryz.zeroValue22
 t66:=Tryz.underlying432
 a66:=Tryz.isAgg432
 z66:=Tryz.sizeOf432
 v66:=Tryz.zeroValue432
 t70:=Tryz.underlying435
 a70:=Tryz.isAgg435
 z70:=Tryz.sizeOf435
 v70:=Tryz.zeroValue435
 t76:=Tryz.underlying443
 a76:=Tryz.isAgg443
 z76:=Tryz.sizeOf443
 v76:=Tryz.zeroValue443
 t77:=Tryz.underlying444
 a77:=Tryz.isAgg444
 z77:=Tryz.sizeOf444
 v77:=Tryz.zeroValue444 }
def Tryz.eqTrm_ren:Go.Shelf.Ren:=⟨fun|8=>389|n=>n,fun|22=>41|24=>122|4=>4|3=>3|0=>0|n=>n,fun|n=>n⟩
theorem Tryz.eqTrm:Go.Proofs.SlLaysQ.n8 Tryz.prog Tryz.eqTrm_ren:={
 mixed:=by kernel_rfl
 f8:=⟨Tryz.f389.name,by decide,Tryz.func389.trans (congrArg some (by kernel_rfl))⟩
 t0:=Tryz.underlying0
 a0:=Tryz.isAgg0
 z0:=Tryz.sizeOf0
 v0:=Tryz.zeroValue0
 t3:=Tryz.underlying3
 a3:=Tryz.isAgg3
 z3:=Tryz.sizeOf3
 v3:=Tryz.zeroValue3
 t4:=Tryz.underlying4
 a4:=Tryz.isAgg4
 z4:=Tryz.sizeOf4
 v4:=Tryz.zeroValue4
 t22:=Tryz.underlying41
 a22:=Tryz.isAgg41
 z22:=Tryz.sizeOf41
 v22:=Tryz.zeroValue41 }
def Tryz.conKys_ren:Go.Shelf.Ren:=⟨fun|7=>352|6=>390|n=>n,fun|22=>50|24=>39|4=>4|0=>0|3=>3|n=>n,fun|n=>n⟩
theorem Tryz.conKys:Go.Proofs.SlLaysQ.n7 Tryz.prog Tryz.conKys_ren:={
 mixed:=by kernel_rfl
 f6:=⟨Tryz.f390.name,by decide,Tryz.func390.trans (congrArg some (by kernel_rfl))⟩
 f7:=⟨Tryz.f352.name,by decide,Tryz.func352.trans (congrArg some (by kernel_rfl))⟩
 t0:=Tryz.underlying0
 a0:=Tryz.isAgg0
 z0:=Tryz.sizeOf0
 v0:=Tryz.zeroValue0
 t3:=Tryz.underlying3
 a3:=Tryz.isAgg3
 z3:=Tryz.sizeOf3
 v3:=Tryz.zeroValue3
 t4:=Tryz.underlying4
 a4:=Tryz.isAgg4
 z4:=Tryz.sizeOf4
 v4:=Tryz.zeroValue4
 t22:=Tryz.underlying50
 a22:=Tryz.isAgg50
 z22:=Tryz.sizeOf50
 v22:=Tryz.zeroValue50 }
end Go.Proofs
namespace Go.Proofs.YtmhlcnmfbolgdaaGreat
section
open Go.RowKit
abbrev Fld:=ByteArray × List ByteArray
structure Fx where
 name:ByteArray
 p:Option Addr
 cap:Nat
 txt:List ByteArray
 deriving Inhabited
def Fx.sl (x:Fx):Value:=.slice x.p x.txt.length x.cap
def Fx.fld (x:Fx):Fld:=(x.name,x.txt)
def encX (x:Fx):List Value:=[.string x.name,x.sl]
def Fx.val (x:Fx):Value:=.agg (encX x).toArray
def TxtAt (w:World) (p:Option Addr) (ts:List ByteArray):Prop :=
 ts=[]∨∃b off,p=some ⟨b,off,none⟩∧∀i,(h:i<ts.length)→w.cell? ⟨b,off+i,none⟩=some (.string ts[i])
def Fx.at (w:World) (x:Fx):Prop:=TxtAt w x.p x.txt
def XsAt (w:World) (b off:Nat) (d:List Fx):Prop :=
 ∀i,(h:i<d.length)→w.cell? ⟨b,off+i * 2,none⟩=some (.string d[i].name)∧w.cell? ⟨b,off+i * 2+1,none⟩=some d[i].sl
def IsXs (w:World) (v:Value) (d:List Fx):Prop :=
 ∃p cap,v=.slice p d.length cap∧(d=[]∨∃b off,p=some ⟨b,off,none⟩∧XsAt w b off d)∧∀x∈d,x.at w
def FitT (ts:List ByteArray):Prop:=ts.length≤maxLen∧∀t∈ts,t.size≤maxLen
def FitF (f:Fld):Prop:=f.1.size≤maxLen∧FitT f.2
def FitX (d:List Fx):Prop:=d.length≤maxLen∧∀x∈d,FitF x.fld
theorem cell_block {w:World} {a:Addr} {v:Value} (h:w.cell? a=some v):a.block<w.heap.size:=by
 rcases Nat.lt_or_ge a.block w.heap.size with h'|h'
 ·exact h'
 ·simp [World.cell?,Array.getElem?_eq_none h'] at h
theorem TxtAt.kept {w w':World} {p:Option Addr} {ts:List ByteArray} (h:TxtAt w p ts) (hb:Below w.heap.size w w'):TxtAt w' p ts:=by
 rcases h with h|⟨b,off,hp,h⟩
 ·exact Or.inl h
 ·exact Or.inr ⟨b,off,hp,fun i hi=>(hb.cell (p:=⟨b,off+i,none⟩) (cell_block (h i hi))).trans (h i hi)⟩
theorem XsAt.kept {w w':World} {b off:Nat} {d:List Fx} (h:XsAt w b off d) (hb:Below w.heap.size w w'):XsAt w' b off d :=
 fun i hi=>⟨(hb.cell (p:=⟨b,off+i * 2,none⟩) (cell_block (h i hi).1)).trans (h i hi).1,(hb.cell (p:=⟨b,off+i * 2+1,none⟩) (cell_block (h i hi).2)).trans (h i hi).2⟩
theorem IsXs.at_all {w:World} {v:Value} {d:List Fx} (h:IsXs w v d):∀x∈d,x.at w:=by
 obtain ⟨_,_,_,_,h⟩:=h
 exact h
theorem IsXs.kept {w w':World} {v:Value} {d:List Fx} (h:IsXs w v d) (hb:Below w.heap.size w w'):IsXs w' v d:=by
 obtain ⟨p,cap,rfl,h,ht⟩:=h
 refine ⟨p,cap,rfl,?_,fun x hx=>(ht x hx).kept hb⟩
 rcases h with h|⟨b,off,hp,h⟩
 ·exact Or.inl h
 ·exact Or.inr ⟨b,off,hp,h.kept hb⟩
def longB (t:ByteArray):Bool:=decide (128<t.size)
def fitsB (f:Fld):Bool:=fieldB f.1.data.toList && !f.2.isEmpty&&decide (f.2.length≤8) && !f.2.any longB
set_option maxHeartbeats 1000000 in
theorem misnamed_any (x:Fx) (w:World) (hs:x.name.size≤maxLen):Calls Tryz.prog 302 #[x.val] w fun e w'=>e=.returned (.bool (!fieldB x.name.data.toList))∧Grown w w':=by
 obtain ⟨nm,p,cap,ts⟩:=x
 simp only [Fx.val,encX,Fx.sl] at hs ⊢
 go_enter Tryz.func302,Tryz.ntmps302
 go_wp2_with (go_at_call 318;refine (field_any _ _ hs).mono ?_;rintro e w' ⟨rfl,rfl⟩)
 go_ret
 exact ⟨rfl,(Grown.refl _).alloc _⟩
set_option maxHeartbeats 1000000 in
theorem bare_any (x:Fx) (w:World):Calls Tryz.prog 303 #[x.val] w fun e w'=>e=.returned (.bool x.txt.isEmpty)∧Grown w w':=by
 obtain ⟨nm,p,cap,ts⟩:=x
 simp only [Fx.val,encX,Fx.sl]
 have HE:Hid (decide ((ts.length:Int)=0)=ts.isEmpty):=by
  show _=_
  cases ts<;>simp
  omega
 go_enter Tryz.func303,Tryz.ntmps303
 go_wp2_with fail
 go_ret
 exact ⟨ret_bool HE.out,(Grown.refl _).alloc _⟩
set_option maxHeartbeats 1000000 in
theorem tooLong_any (t:ByteArray) (w:World):Calls Tryz.prog 305 #[.string t] w fun e w'=>e=.returned (.bool (longB t))∧w'=w:=by
 have HE:Hid (decide ((128:Int)<t.size)=longB t):=by
  show _=_
  unfold longB
  rw [Bool.eq_iff_iff];simp;omega
 go_enter Tryz.func305,Tryz.ntmps305
 go_wp2_with fail
 go_ret
 exact ⟨ret_bool HE.out,rfl⟩
end
section
open Go.RowKit Go.Shelf
theorem own_on {w w':World} {base:Nat} {e:TypeId} {size:Nat} {v:Value} {n:Nat} {xs:List Value} (h:w.ownsRow base e size v n xs) (hb:Below w.heap.size w w'):w'.ownsRow base e size v n xs :=
 h.kept (row:=none) ⟨hb.os,hb.tape,hb.output,hb.size,fun k hk _=>hb.block k hk⟩ (Classical.em _)
end
section
open Go.RowKit
theorem addr_add (b off i:Nat):(⟨b,off,none⟩:Addr).add i=⟨b,off+i,none⟩:=by
 unfold Addr.add
 split
 ·rename_i h;simp_all
 ·rfl
theorem grown_set (w:World) (R i:Nat) (v:Value):w.grownBy (w.setCell ⟨R,i,none⟩ v) (some R) :=
 ⟨rfl,rfl,rfl,by simp [World.setCell],fun k _ hne=>Below.heap_setCell w _ _ k (fun e=>hne (by rw [e]))⟩
theorem grown_trans {a b c:World} {R:Nat} (h:a.grownBy b (some R)) (k:b.grownBy c (some R)):a.grownBy c (some R) :=
 ⟨k.os.trans h.os,k.tape.trans h.tape,k.output.trans h.output,Nat.le_trans h.size k.size,fun i hi hn=>(k.block i (Nat.lt_of_lt_of_le hi h.size) hn).trans (h.block i hi hn)⟩
end
section
open Go.RowKit
def OwnT (n0:Nat) (w:World) (v:Value) (ts:List ByteArray):Prop:=w.ownsRow n0 9 1 v ts.length (ts.map Value.string)
theorem own_weak {w:World} {base base':Nat} {e:TypeId} {size:Nat} {v:Value} {n:Nat} {xs:List Value} (h:w.ownsRow base e size v n xs) (hb:base'≤base):w.ownsRow base' e size v n xs:=by
 refine ⟨h.1,?_⟩
 rcases h.2 with h2|⟨g,cap,cur,h3,h4,h5⟩
 ·exact .inl h2
 ·exact .inr ⟨g,cap,cur,h3,by omega,h5⟩
theorem OwnT.on {n0:Nat} {w w':World} {v:Value} {ts:List ByteArray} (h:OwnT n0 w v ts) (hb:Below w.heap.size w w'):OwnT n0 w' v ts:=own_on h hb
end
section
open Go.RowKit
theorem enters_tooLong:∀args w,(callFunc 305 args).run Tryz.prog w=.ok (.enter 305 args) w:=enters_of Tryz.func305 (by kernel_rfl) rfl
theorem hasLong_any (p:Option Addr) (cap:Nat) (ts:List ByteArray) (w:World) (h:TxtAt w p ts) (hs:ts.length≤maxLen) :
  Calls Tryz.prog 304 #[.slice p ts.length cap,.func (.func 305) #[] #[]] w fun e w'=>e=.returned (.bool (ts.any longB))∧∃q,w'=w.drewN q:=by
 unfold maxLen at hs
 rcases h with rfl|⟨b,off,rfl,hc⟩
 ·refine (Tryz.slices_ContainsFunc_empty (α:=ByteArray) p cap _ w).mono ?_
  rintro e w' ⟨rfl,rfl⟩
  exact ⟨rfl,0,rfl⟩
 ·refine (Tryz.slices_ContainsFunc (fun t:ByteArray=>Value.string t) longB 305 #[] enters_tooLong b off ts.length cap ts w (fun W x hb=>(tooLong_any x W).mono ?_) (Nat.le_refl _) (by omega) ?_).mono ?_
  ·rintro e w' ⟨rfl,rfl⟩
   exact ⟨rfl,0,rfl⟩
  ·intro j hj
   rw [getElem!_pos ts j hj]
   exact hc j hj
  ·rintro e w' ⟨rfl,hq⟩
   rw [List.take_length]
   exact ⟨rfl,hq⟩
set_option maxHeartbeats 1000000 in
theorem fits_any (x:Fx) (w:World) (hx:x.at w) (hf:FitF x.fld):Calls Tryz.prog 224 #[x.val] w fun e w'=>e=.returned (.bool (fitsB x.fld))∧Grown w w':=by
 obtain ⟨hs,hl,_⟩:=hf
 have HM:=hid (misnamed_any x)
 have HBA:=hid (bare_any x)
 obtain ⟨nm,p,cap,ts⟩:=x
 simp only [Fx.val,encX,Fx.sl,Fx.fld,Fx.at] at hs hl hx HM HBA ⊢
 have hb1:Grown w (w.alloc (.cells #[.string nm,.slice p ts.length cap] 131)):=(Grown.refl _).alloc _
 have HX:=hid (hx.kept hb1.below)
 have HS:=hid hs
 have HL:=hid hl
 clear hx hs hl
 obtain ⟨r,hr⟩:∃r,fitsB (nm,ts)=r:=⟨_,rfl⟩
 rw [hr]
 have HR:=hid hr
 clear hr
 have A0:∀w1,Below (w.alloc (.cells #[.string nm,.slice p ts.length cap] 131)).heap.size (w.alloc (.cells #[.string nm,.slice p ts.length cap] 131)) w1→w1.cell? ⟨w.heap.size,0,none⟩=some (.string nm)∧w1.cell? ⟨w.heap.size,1,none⟩=some (.slice p ts.length cap):=fun w1 hb=>by
  refine ⟨(hb.cell (p:=⟨w.heap.size,0,none⟩) (by simp)).trans (by simp [go_sem]),(hb.cell (p:=⟨w.heap.size,1,none⟩) (by simp)).trans (by simp [go_sem])⟩
 have A1:=hid A0
 clear A0
 cases h1:fieldB nm.data.toList with
 | false =>
  have H0:Hid (r=false):=by show r=false;rw [←HR.out];simp [fitsB,h1]
  go_enter Tryz.func224,Tryz.ntmps224
  go_wp2_with (first|(go_at_call 302;refine (HM.out _ HS.out).mono ?_;rintro e w1 ⟨rfl,hb2⟩;simp only [h1]))
  go_ret
  exact ⟨ret_bool H0.out.symm,hb1.trans hb2⟩
 | true =>
  cases h2:ts.isEmpty with
  | true =>
   have H0:Hid (r=false):=by show r=false;rw [←HR.out];simp [fitsB,h2]
   go_enter Tryz.func224,Tryz.ntmps224
   go_wp2_with (first|(go_at_call 302;refine (HM.out _ HS.out).mono ?_;rintro e w1 ⟨rfl,hb2⟩;obtain ⟨a0,a1⟩:=A1.out _ hb2.below;simp only [h1])|(go_at_call 303;refine (HBA.out _).mono ?_;rintro e w2 ⟨rfl,hb3⟩;simp only [h2]))
   go_ret
   exact ⟨ret_bool H0.out.symm,(hb1.trans hb2).trans hb3⟩
  | false =>
   by_cases h8:ts.length≤8
   ·have h8z:¬ (8:Int)<(ts.length:Int):=by omega
    have H0:Hid (r = !ts.any longB):=by show r=_;rw [←HR.out];unfold fitsB;rw [h1,h2,decide_eq_true h8];rfl
    go_enter Tryz.func224,Tryz.ntmps224
    go_wp2_with (first|(go_at_call 302;refine (HM.out _ HS.out).mono ?_;rintro e w1 ⟨rfl,hb2⟩;obtain ⟨a0,a1⟩:=A1.out _ hb2.below;simp only [h1])|(go_at_call 303;refine (HBA.out _).mono ?_;rintro e w2 ⟨rfl,hb3⟩;obtain ⟨b0,b1⟩:=A1.out _ (hb2.trans hb3).below;simp only [h2])|(go_at_call 304;refine (hasLong_any _ _ _ _ (HX.out.kept (hb2.trans hb3).below) HL.out).mono ?_;rintro e w3 ⟨rfl,q,rfl⟩))
    go_ret
    exact ⟨ret_bool H0.out.symm,((hb1.trans hb2).trans hb3).drewN _⟩
   ·have h8z:(8:Int)<(ts.length:Int):=by omega
    have H0:Hid (r=false):=by show r=_;rw [←HR.out];unfold fitsB;rw [decide_eq_false h8];simp
    go_enter Tryz.func224,Tryz.ntmps224
    go_wp2_with (first|(go_at_call 302;refine (HM.out _ HS.out).mono ?_;rintro e w1 ⟨rfl,hb2⟩;obtain ⟨a0,a1⟩:=A1.out _ hb2.below;simp only [h1])|(go_at_call 303;refine (HBA.out _).mono ?_;rintro e w2 ⟨rfl,hb3⟩;obtain ⟨b0,b1⟩:=A1.out _ (hb2.trans hb3).below;simp only [h2]))
    go_ret
    exact ⟨ret_bool H0.out.symm,(hb1.trans hb2).trans hb3⟩
end
section
open Go.RowKit
def ltN (a b:ByteArray):Bool:=Op.bytesLess a.toList b.toList
def stepOk (fs:List Fld) (i:Nat):Bool:=fitsB (fs.getD i default)&&(decide (i=0)||ltN (fs.getD (i-1) default).1 (fs.getD i default).1)
def mayB (fs:List Fld):Bool:=decide (fs.length≤16)&&(List.range fs.length).all (stepOk fs)
theorem flds_at {d:List Fx} {i:Nat} (h:i<d.length):(d.map Fx.fld).getD i default=d[i].fld:=by
 rw [List.getD_eq_getElem?_getD,List.getElem?_map,List.getElem?_eq_getElem h];rfl
theorem may_long {fs:List Fld} (h:16<fs.length):mayB fs=false:=by
 unfold mayB;rw [decide_eq_false (by omega)];rfl
theorem may_no {fs:List Fld} {i:Nat} (h:i<fs.length) (hs:stepOk fs i=false):mayB fs=false:=by
 unfold mayB
 have:(List.range fs.length).all (stepOk fs)=false:=by
  rw [Bool.eq_false_iff]
  intro ha
  rw [List.all_eq_true] at ha
  have:=ha i (List.mem_range.2 h)
  rw [hs] at this;cases this
 rw [this];simp
theorem may_yes {fs:List Fld} (h:fs.length≤16) (hs:∀i,i<fs.length→stepOk fs i=true):mayB fs=true:=by
 unfold mayB
 have:(List.range fs.length).all (stepOk fs)=true:=by
  rw [List.all_eq_true]
  exact fun i hi=>hs i (List.mem_range.1 hi)
 rw [this,decide_eq_true h];rfl
theorem x_new (w:World) (x:Fx) (w':World) (hb:Below (w.alloc (.cells #[.string x.name,.slice x.p x.txt.length x.cap] 131)).heap.size (w.alloc (.cells #[.string x.name,.slice x.p x.txt.length x.cap] 131)) w') :
  w'.cell? ⟨w.heap.size,0,none⟩=some (.string x.name)∧w'.cell? ⟨w.heap.size,1,none⟩=some (.slice x.p x.txt.length x.cap) :=
 ⟨(hb.cell (p:=⟨w.heap.size,0,none⟩) (by simp)).trans (by simp [go_sem]),(hb.cell (p:=⟨w.heap.size,1,none⟩) (by simp)).trans (by simp [go_sem])⟩
set_option maxHeartbeats 4000000 in
set_option maxRecDepth 100000 in
theorem may_any (v:Value) (d:List Fx) (w:World) (hv:IsXs w v d) (hf:FitX d):Calls Tryz.prog 144 #[v] w fun e w'=>e=.returned (.bool (mayB (d.map Fx.fld)))∧Grown w w':=by
 obtain ⟨p,cap,rfl,hd,ht⟩:=hv
 have HT:=hid ht
 have HF:=hid hf.2
 have hl:=hf.1
 unfold maxLen at hl
 have HD:=hid hd
 clear ht hf hd
 obtain ⟨r,hr⟩:∃r,mayB (d.map Fx.fld)=r:=⟨_,rfl⟩
 rw [hr]
 have HR:=hid hr
 clear hr
 by_cases h16:16<d.length
 ·have h16z:(16:Int)<d.length:=by omega
  have H0:Hid (r=false):=HR.out.symm.trans (may_long (by rw [List.length_map];exact h16))
  go_enter Tryz.func144,Tryz.ntmps144
  go_wp2_with fail
  go_ret
  exact ⟨ret_bool H0.out.symm,Grown.refl _⟩
 have h16z:¬ (16:Int)<d.length:=by omega
 go_enter Tryz.func144,Tryz.ntmps144
 go_wp2_with fail
 go_loopg [10] d.length (fun g vi wr=>∃i:Nat,vi=.int .i64 i∧i≤d.length∧d.length-i≤g∧Grown w wr∧Hid (∀j,j<i→stepOk (d.map Fx.fld) j=true))
 case atStart=>exact ⟨0,rfl,by omega,by omega,Grown.refl _,fun j h=>by omega⟩
 case round =>
  obtain ⟨i,rfl,hi,hg,hb,HJ⟩:=hrel
  by_cases hlt:i<d.length
  ·have hltz:(i:Int)<(d.length:Int):=by omega
   have hiz:(0:Int)≤i:=by omega
   obtain ⟨b,off,rfl,hxs⟩:∃b off,p=some ⟨b,off,none⟩∧XsAt w b off d:=by
    rcases HD.out with h|h
    ·subst h;simp at hlt
    ·exact h
   have hxr:=hxs.kept hb.below
   obtain ⟨c0,c1⟩:=hxr i hlt
   have hxi:(d[i]).at wr:=(HT.out _ (List.getElem_mem hlt)).kept hb.below
   have hfi:=HF.out _ (List.getElem_mem hlt)
   have hsx:=flds_at hlt
   obtain ⟨x,hx⟩:∃x,d[i]=x:=⟨_,rfl⟩
   rw [hx] at c0 c1 hxi hfi hsx
   have HXR:=hid hxr
   have HXI:=hid hxi
   have HFI:=hid hfi
   have HSX:=hid hsx
   clear hxr hxs hxi hfi hx hsx
   unfold Fx.sl at c1
   have FFX:Hid (∀W,x.at W→Calls Tryz.prog 224 #[.agg #[.string x.name,.slice x.p x.txt.length x.cap]] W fun e w'=>e=.returned (.bool (fitsB x.fld))∧∃q os',w'=Sort.grow (W.drewN q) os'):=fun W h=>fits_any x W h HFI.out
   have mixed:=Tryz.mixed
   by_cases h0:i=0
   ·have h0z:¬ (0:Int)<(i:Int):=by omega
    have H00:=hid h0
    clear h0
    go_wp2_with fail
    obtain ⟨W1,hW1⟩:∃W1,wr.alloc (.cells #[.string x.name,.slice x.p x.txt.length x.cap] 131)=W1:=⟨_,rfl⟩
    have full:∀n os,(Sort.grow (W1.drewN n) os).cell? ⟨wr.heap.size,0,none⟩=some (.string x.name)∧(Sort.grow (W1.drewN n) os).cell? ⟨wr.heap.size,1,none⟩=some (.slice x.p x.txt.length x.cap)∧x.at (Sort.grow (W1.drewN n) os):=fun n os=>by
     subst hW1
     have hgr:=(Grown.refl (wr.alloc (.cells #[.string x.name,.slice x.p x.txt.length x.cap] 131))).on (q:=n) (os:=os)
     obtain ⟨f0,f1⟩:=x_new wr x _ hgr.below
     have hbw:=(((Grown.refl wr).alloc (.cells #[.string x.name,.slice x.p x.txt.length x.cap] 131)).trans hgr).below
     exact ⟨f0,f1,HXI.out.kept hbw⟩
    have q0:∀n os,(Sort.grow (W1.drewN n) os).cell? ⟨wr.heap.size,0,none⟩=some (.string x.name):=fun n os=>(full n os).1
    have q1:∀n os,(Sort.grow (W1.drewN n) os).cell? ⟨wr.heap.size,1,none⟩=some (.slice x.p x.txt.length x.cap):=fun n os=>(full n os).2.1
    have Q3:Hid (∀n os,x.at (Sort.grow (W1.drewN n) os)):=fun n os=>(full n os).2.2
    have hbW:Grown w W1:=by subst hW1;exact hb.alloc _
    rw [hW1]
    clear full hW1 c0 c1
    cases hfx:fitsB x.fld with
    | false =>
     rw [hfx] at FFX
     have H0:Hid (r=false):=HR.out.symm.trans (may_no (i:=i) (by rw [List.length_map];exact hlt) (by unfold stepOk;rw [HSX.out,hfx];rfl))
     refine wp_region_quiet_grown mixed (by kernel_rfl) ?_
     repeat (go_big_quiet_step (first|(go_at_call 224;refine Calls.grown_of (FFX.out _ (Q3.out _ _)))))
     refine wpQuiet_nil ?_
     intro _ hw'
     obtain ⟨⟨nq,osq⟩,hw''⟩:=hw'
     subst hw''
     go_wp2_with fail
     go_ret
     exact ⟨ret_bool H0.out.symm,hbW.on⟩
    | true =>
     rw [hfx] at FFX
     have cb:decide (0<i)=false:=decide_eq_false (by have:=H00.out;omega)
     have H0:Hid (stepOk (d.map Fx.fld) i=true):=by show _=_;unfold stepOk;rw [HSX.out,hfx,decide_eq_true H00.out];rfl
     refine wp_region_quiet_grown mixed (by kernel_rfl) ?_
     repeat (go_big_quiet_step (first|(go_at_call 224;refine Calls.grown_of (FFX.out _ (Q3.out _ _)))))
     refine wpQuiet_nil ?_
     intro _ hw'
     obtain ⟨⟨nq,osq⟩,hw''⟩:=hw'
     subst hw''
     go_wp2_with fail
     go_roundg (d.length-(i+1))
     case measure=>omega
     refine ⟨i+1,by go_num,by omega,by omega,hbW.on,fun j hj=>?_⟩
     obtain rfl:j=i:=by have:=H00.out;omega
     exact H0.out
   ·obtain ⟨k,rfl⟩:∃k,i=k+1:=⟨i-1,by omega⟩
    obtain ⟨e0,e1⟩:=HXR.out k (by omega)
    have hsy:=flds_at (d:=d) (i:=k) (by omega)
    obtain ⟨y,hy⟩:∃y,d[k]=y:=⟨_,rfl⟩
    rw [hy] at e0 hsy
    have HSY:=hid hsy
    clear e1 hy hsy
    have k1:(0:Int)<(k:Int)+1:=by omega
    have k2:(0:Int)≤(k:Int):=by omega
    have k3:(k:Int)<(d.length:Int):=by omega
    go_wp2_with fail
    obtain ⟨W1,hW1⟩:∃W1,wr.alloc (.cells #[.string x.name,.slice x.p x.txt.length x.cap] 131)=W1:=⟨_,rfl⟩
    have full:∀n os,(Sort.grow (W1.drewN n) os).cell? ⟨wr.heap.size,0,none⟩=some (.string x.name)∧(Sort.grow (W1.drewN n) os).cell? ⟨wr.heap.size,1,none⟩=some (.slice x.p x.txt.length x.cap)∧(Sort.grow (W1.drewN n) os).cell? ⟨b,off+k * 2,none⟩=some (.string y.name)∧x.at (Sort.grow (W1.drewN n) os):=fun n os=>by
     subst hW1
     have hgr:=(Grown.refl (wr.alloc (.cells #[.string x.name,.slice x.p x.txt.length x.cap] 131))).on (q:=n) (os:=os)
     obtain ⟨f0,f1⟩:=x_new wr x _ hgr.below
     have hbw:=(((Grown.refl wr).alloc (.cells #[.string x.name,.slice x.p x.txt.length x.cap] 131)).trans hgr).below
     exact ⟨f0,f1,(hbw.cell (p:=⟨b,off+k * 2,none⟩) (cell_block e0)).trans e0,HXI.out.kept hbw⟩
    have q0:∀n os,(Sort.grow (W1.drewN n) os).cell? ⟨wr.heap.size,0,none⟩=some (.string x.name):=fun n os=>(full n os).1
    have q1:∀n os,(Sort.grow (W1.drewN n) os).cell? ⟨wr.heap.size,1,none⟩=some (.slice x.p x.txt.length x.cap):=fun n os=>(full n os).2.1
    have q2:∀n os,(Sort.grow (W1.drewN n) os).cell? ⟨b,off+k * 2,none⟩=some (.string y.name):=fun n os=>(full n os).2.2.1
    have Q3:Hid (∀n os,x.at (Sort.grow (W1.drewN n) os)):=fun n os=>(full n os).2.2.2
    have hbW:Grown w W1:=by subst hW1;exact hb.alloc _
    rw [hW1]
    clear full hW1 c0 c1 e0
    cases hfx:fitsB x.fld with
    | false =>
     rw [hfx] at FFX
     have H0:Hid (r=false):=HR.out.symm.trans (may_no (i:=k+1) (by rw [List.length_map];exact hlt) (by unfold stepOk;rw [HSX.out,hfx];rfl))
     refine wp_region_quiet_grown mixed (by kernel_rfl) ?_
     repeat (go_big_quiet_step (first|(go_at_call 224;refine Calls.grown_of (FFX.out _ (Q3.out _ _)))))
     refine wpQuiet_nil ?_
     intro _ hw'
     obtain ⟨⟨nq,osq⟩,hw''⟩:=hw'
     subst hw''
     go_wp2_with fail
     go_ret
     exact ⟨ret_bool H0.out.symm,hbW.on⟩
    | true =>
     rw [hfx] at FFX
     have H0:Hid (stepOk (d.map Fx.fld) (k+1)=ltN y.name x.name):=by
      show _=_
      unfold stepOk
      rw [HSX.out,hfx,Nat.add_sub_cancel,HSY.out,decide_eq_false (by omega)]
      rfl
     cases hlt2:Op.bytesLess y.name.toList x.name.toList with
     | false =>
      have H1:Hid (r=false):=HR.out.symm.trans (may_no (i:=k+1) (by rw [List.length_map];exact hlt) (H0.out.trans hlt2))
      refine wp_region_quiet_grown mixed (by kernel_rfl) ?_
      repeat (go_big_quiet_step (first|(go_at_call 224;refine Calls.grown_of (FFX.out _ (Q3.out _ _)))))
      refine wpQuiet_nil ?_
      intro _ hw'
      obtain ⟨⟨nq,osq⟩,hw''⟩:=hw'
      subst hw''
      go_wp2_with fail
      go_ret
      exact ⟨ret_bool H1.out.symm,hbW.on⟩
     | true =>
      have H1:Hid (stepOk (d.map Fx.fld) (k+1)=true):=H0.out.trans hlt2
      refine wp_region_quiet_grown mixed (by kernel_rfl) ?_
      repeat (go_big_quiet_step (first|(go_at_call 224;refine Calls.grown_of (FFX.out _ (Q3.out _ _)))))
      refine wpQuiet_nil ?_
      intro _ hw'
      obtain ⟨⟨nq,osq⟩,hw''⟩:=hw'
      subst hw''
      go_wp2_with fail
      go_roundg (d.length-(k+1+1))
      case measure=>omega
      refine ⟨k+1+1,by go_num,by omega,by omega,hbW.on,fun j hj=>?_⟩
      by_cases e:j=k+1
      ·subst e;exact H1.out
      ·exact HJ.out j (by omega)
  ·have hltz:¬ (i:Int)<(d.length:Int):=by omega
   have H0:Hid (r=true):=HR.out.symm.trans (may_yes (by rw [List.length_map];omega) (fun j hj=>HJ.out j (by rw [List.length_map] at hj;omega)))
   go_wp2_with fail
   go_ret
   exact ⟨ret_bool H0.out.symm,hb⟩
end
section
open Go.RowKit
theorem Tryz.infoFld:(Tryz.prog.info? 131).map (fun i=>(i.zero,i.size,i.bytes))=some (some (.agg #[.string ⟨#[]⟩,.slice none 0 0]),2,40):=by kernel_rfl
def cellsX (d:List Fx):List Value:=d.flatMap encX
theorem cellsX_len (d:List Fx):(cellsX d).length=d.length * 2:=by
 induction d with
 | nil=>rfl
 | cons x d ih=>simp [cellsX,encX] at ih ⊢;omega
theorem cellsX_get (d:List Fx) (i:Nat) (h:i<d.length):(cellsX d)[i * 2]? = some (.string d[i].name)∧(cellsX d)[i * 2+1]? = some d[i].sl:=by
 induction d generalizing i with
 | nil=>simp at h
 | cons x d ih =>
  have e:cellsX (x::d)=.string x.name::x.sl::cellsX d:=rfl
  rw [e]
  cases i with
  | zero=>simp
  | succ i =>
   have:=ih i (by simpa using h)
   rw [show (i+1) * 2=i * 2+1+1 by omega]
   simpa using this
def OwnXs (n0:Nat) (w:World) (v:Value) (d:List Fx):Prop:=w.ownsRow n0 131 2 v d.length (cellsX d)∧∀x∈d,OwnT n0 w x.sl x.txt
theorem OwnT.txtAt {n0:Nat} {w:World} {p:Option Addr} {cap:Nat} {ts:List ByteArray} (h:OwnT n0 w (.slice p ts.length cap) ts):TxtAt w p ts:=by
 rcases h.2 with ⟨_,h0⟩|⟨g,c,cur,hv,_,hg,_,_,hsz,htk⟩
 ·exact Or.inl (List.length_eq_zero_iff.1 h0)
 ·right
  injection hv with hp
  refine ⟨g,0,hp,fun i hi=>?_⟩
  rw [Nat.zero_add,cell_of_row w g i cur _ _ hg]
  have:(ts.map Value.string)[i]? = cur.toList[i]?:=by
   rw [←htk,List.getElem?_take,if_pos (by omega)]
  rw [←Array.getElem?_toList,←this]
  simp [hi]
theorem OwnXs.is {n0:Nat} {w:World} {v:Value} {d:List Fx} (h:OwnXs n0 w v d):IsXs w v d:=by
 obtain ⟨h1,h2⟩:=h
 rcases h1.2 with ⟨rfl,h0⟩|⟨g,c,cur,rfl,_,hg,_,_,hsz,htk⟩
 ·obtain rfl:=List.length_eq_zero_iff.1 h0
  exact ⟨none,0,rfl,Or.inl rfl,fun x hx=>by simp at hx⟩
 ·refine ⟨_,c,rfl,Or.inr ⟨g,0,rfl,fun i hi=>?_⟩,fun x hx=>OwnT.txtAt (h2 x hx)⟩
  obtain ⟨c0,c1⟩:=cellsX_get d i hi
  have e:∀j,j<d.length * 2→(cellsX d)[j]? = cur[j]?:=fun j hj=>by
   rw [←htk,List.getElem?_take,if_pos hj,Array.getElem?_toList]
  rw [Nat.zero_add,cell_of_row w g _ cur _ _ hg,cell_of_row w g _ cur _ _ hg,←e _ (by omega),←e _ (by omega)]
  exact ⟨c0,c1⟩
theorem OwnXs.on {n0:Nat} {w w':World} {v:Value} {d:List Fx} (h:OwnXs n0 w v d) (hb:Below w.heap.size w w'):OwnXs n0 w' v d:=⟨own_on h.1 hb,fun x hx=>(h.2 x hx).on hb⟩
theorem own_slice {n0:Nat} {w:World} {sv:Value} {ts:List ByteArray} (h:OwnT n0 w sv ts):∃p cap,sv=.slice p ts.length cap:=by
 rcases h.2 with ⟨hv,h0⟩|⟨g,cap,cur,hv,_⟩
 ·exact ⟨none,0,by rw [hv,h0]⟩
 ·exact ⟨_,_,hv⟩
theorem cellsX_one (d:List Fx):∀u∈cellsX d,u.oneCell'=true:=by
 intro u hu
 obtain ⟨x,_,hx⟩:=List.mem_flatMap.1 hu
 simp [encX] at hx
 rcases hx with rfl|rfl<;>rfl
theorem fitX_of {d:List Fx} {fs:List Fld} (h:d.map Fx.fld=fs) (hl:d.length≤maxLen) (hf:∀f∈fs,FitF f):FitX d :=
 ⟨hl,fun x hx=>hf _ (by rw [←h];exact List.mem_map.2 ⟨x,hx,rfl⟩)⟩
end
section
open Go.RowKit
theorem toList_eq (a b:ByteArray):(a.toList==b.toList)=decide (a=b):=by
 rw [Bool.eq_iff_iff]
 simp only [beq_iff_eq,decide_eq_true_eq]
 constructor
 ·intro h
  rw [Lib.toList_data,Lib.toList_data] at h
  obtain ⟨⟨l⟩⟩:=a
  obtain ⟨⟨m⟩⟩:=b
  simp at h
  rw [h]
 ·rintro rfl;rfl
end
section
open Go.RowKit
theorem cloneT_any (p:Option Addr) (cap:Nat) (ts:List ByteArray) (w:World) (h:TxtAt w p ts) (hs:ts.length * 16≤140737488355328) :
  Calls Tryz.prog 226 #[.slice p ts.length cap] w fun e w'=>∃v,e=.returned v∧OwnT w.heap.size w' v ts∧Below w.heap.size w w':=by
 rcases h with rfl|⟨b,off,rfl,hc⟩
 ·cases p with
  | none =>
   refine (Tryz.slices_Clone_string_nil 0 cap w).mono ?_
   rintro e w' ⟨rfl,rfl⟩
   exact ⟨_,rfl,World.ownsRow_nil _ _ _ _,Below.refl _ _⟩
  | some a =>
   refine (Tryz.slices_Clone_string_zero a cap w).mono ?_
   rintro e w' ⟨v,rfl,ho,_,hb⟩
   exact ⟨_,rfl,ho,hb⟩
 ·refine (Tryz.slices_Clone_string b off ts.length cap ts w (Nat.le_refl _) hs (fun j hj=>?_)).mono ?_
  ·rw [hc j hj,List.getD_eq_getElem?_getD,List.getElem?_eq_getElem hj];rfl
  ·rintro e w' ⟨v,rfl,ho,_,hb⟩
   rw [List.take_length] at ho
   exact ⟨_,rfl,ho,hb⟩
def textsOf (fs:List Fld) (n:ByteArray):List ByteArray:=((fs.find? fun f=>decide (f.1=n)).map (·.2)).getD []
theorem textsOf_at (fs:List Fld) (n:ByteArray) (i:Nat) (hi:i<fs.length) (hn:∀j (h:j<i),(fs[j]'(by omega)).1≠n) (he:fs[i].1=n):textsOf fs n=fs[i].2:=by
 unfold textsOf
 have:fs.find? (fun f=>decide (f.1=n))=some fs[i]:=by
  rw [List.find?_eq_some_iff_getElem]
  refine ⟨by simpa using he,i,hi,rfl,fun j hj=>?_⟩
  simpa using hn j hj
 rw [this];rfl
theorem textsOf_no (fs:List Fld) (n:ByteArray) (hn:∀j (h:j<fs.length),fs[j].1≠n):textsOf fs n=[]:=by
 unfold textsOf
 have:fs.find? (fun f=>decide (f.1=n))=none:=by
  rw [List.find?_eq_none]
  intro f hf
  obtain ⟨j,hj,rfl⟩:=List.mem_iff_getElem.1 hf
  simpa using hn j hj
 rw [this];rfl
def TxPost (w:World) (ts:List ByteArray) (e:Ending) (w':World):Prop:=(∃v,e=.returned v∧OwnT w.heap.size w' v ts)∧Below w.heap.size w w'
set_option maxHeartbeats 4000000 in
set_option maxRecDepth 100000 in
theorem texts_any (v:Value) (nm:ByteArray) (d:List Fx) (w:World) (hv:IsXs w v d) (hf:FitX d) (h16:∀x∈d,x.txt.length * 16≤140737488355328) :
  Calls Tryz.prog 254 #[v,.string nm] w fun e w'=>TxPost w (textsOf (d.map Fx.fld) nm) e w':=by
 obtain ⟨p,cap,rfl,hd,ht⟩:=hv
 have HT:=hid ht
 have HD:=hid hd
 have H16:=hid h16
 have hl:=hf.1
 unfold maxLen at hl
 clear ht hd hf h16
 go_enter Tryz.func254,Tryz.ntmps254
 go_wp2_with fail
 go_loopg [9] d.length (fun g vi wr=>∃i:Nat,vi=.int .i64 i∧i≤d.length∧d.length-i≤g∧Grown w wr∧Hid (∀j (h:j<d.length),j<i→d[j].name≠nm))
 case atStart=>exact ⟨0,rfl,by omega,by omega,Grown.refl _,fun j _ h=>by omega⟩
 case round =>
  obtain ⟨i,rfl,hi,hg,hb,HJ⟩:=hrel
  by_cases hlt:i<d.length
  ·have hltz:(i:Int)<(d.length:Int):=by omega
   have hiz:(0:Int)≤i:=by omega
   obtain ⟨b,off,rfl,hxs⟩:∃b off,p=some ⟨b,off,none⟩∧XsAt w b off d:=by
    rcases HD.out with h|h
    ·subst h;simp at hlt
    ·exact h
   obtain ⟨c0,c1⟩:=hxs.kept hb.below i hlt
   have hxi:(d[i]).at w:=HT.out _ (List.getElem_mem hlt)
   have hs16:=H16.out _ (List.getElem_mem hlt)
   have hyes:d[i].name=nm→textsOf (d.map Fx.fld) nm=d[i].txt:=fun e=>by
    have:=textsOf_at (d.map Fx.fld) nm i (by rw [List.length_map];exact hlt) (fun j hj=>by simp only [List.getElem_map];exact HJ.out j (by omega) hj) (by simp only [List.getElem_map];exact e)
    simpa [Fx.fld] using this
   have hnx:d[i].name≠nm→∀j (h:j<d.length),j<i+1→d[j].name≠nm:=fun e j h hj=>by
    by_cases ej:j=i
    ·subst ej;exact e
    ·exact HJ.out j h (by omega)
   obtain ⟨x,hx⟩:∃x,d[i]=x:=⟨_,rfl⟩
   rw [hx] at c0 c1 hxi hs16 hyes hnx
   have HXI:=hid hxi
   have HYES:=hid hyes
   have HNX:=hid hnx
   clear hxs hxi hx hyes hnx
   unfold Fx.sl at c1
   have hgW:Grown w (wr.alloc (.cells #[.string x.name,.slice x.p x.txt.length x.cap] 131)):=hb.alloc _
   have HGW:=hid hgW
   have HCL:=hid (cloneT_any x.p x.cap x.txt _ (HXI.out.kept hgW.below) hs16)
   clear hgW
   cases hq:(x.name.toList==nm.toList) with
   | true =>
    have hq2:x.name=nm:=by rw [toList_eq,decide_eq_true_eq] at hq;exact hq
    have HQ:=hid (HYES.out hq2)
    clear hq2
    go_wp2_with (first|(go_at_call 226;refine HCL.out.mono ?_;rintro e w2 ⟨u,rfl,ho,hb2⟩))
    go_ret
    refine ⟨⟨_,rfl,?_⟩,HGW.out.below.trans (hb2.mono HGW.out.below.size)⟩
    rw [HQ.out]
    exact own_weak ho HGW.out.below.size
   | false =>
    have hq2:x.name≠nm:=by rw [toList_eq,decide_eq_false_iff_not] at hq;exact hq
    have HQ:=hid (HNX.out hq2)
    clear hq2
    go_wp2_with fail
    go_roundg (d.length-(i+1))
    case measure=>omega
    exact ⟨i+1,by go_num,by omega,by omega,HGW.out,HQ.out⟩
  ·have hltz:¬ (i:Int)<(d.length:Int):=by omega
   have H0:Hid (textsOf (d.map Fx.fld) nm=[]):=textsOf_no _ _ (fun j hj=>by
    rw [List.length_map] at hj
    simp only [List.getElem_map]
    exact HJ.out j hj (by omega))
   go_wp2_with fail
   go_ret
   refine ⟨⟨_,rfl,?_⟩,hb.below⟩
   rw [H0.out]
   exact World.ownsRow_nil _ _ _ _
end
section
open Go.RowKit Go.Sort Go.Lib
def Apart (o:List Fx):Prop:=o.Pairwise fun x y=>x.sl.ownBlock=none∨x.sl.ownBlock≠y.sl.ownBlock
def OwnJ (N:Nat) (w:World) (v:Value) (o:List Fx):Prop:=OwnXs N w v o∧Apart o
theorem OwnJ.on {N:Nat} {w w':World} {v:Value} {o:List Fx} (h:OwnJ N w v o) (hb:Below w.heap.size w w'):OwnJ N w' v o:=⟨h.1.on hb,h.2⟩
theorem apart_snoc {o:List Fx} {x:Fx} (h:Apart o) (hx:∀y∈o,y.sl.ownBlock=none∨y.sl.ownBlock≠x.sl.ownBlock):Apart (o++[x]):=by
 unfold Apart
 rw [List.pairwise_append]
 exact ⟨h,List.pairwise_singleton _ _,fun a ha b hb=>by rw [List.mem_singleton] at hb;subst hb;exact hx a ha⟩
theorem own_type {w:World} {n0:Nat} {e:TypeId} {size:Nat} {v:Value} {n:Nat} {xs:List Value} {k:Nat} (h:w.ownsRow n0 e size v n xs) (hk:v.ownBlock=some k):∃cs,w.heap[k]? = some (.cells cs e (0,0)):=by
 rcases h.2 with ⟨rfl,_⟩|⟨g,cap,cur,rfl,_,hg,_⟩
 ·cases hk
 ·have:g=k:=by simpa [Value.ownBlock] using hk
  subst this
  exact ⟨cur,hg⟩
theorem own_else {w w':World} {n0 m0:Nat} {e e':TypeId} {size size':Nat} {v u:Value} {n m:Nat} {xs ys:List Value} (h:w.ownsRow n0 e size v n xs) (hu:w.ownsRow m0 e' size' u m ys) (hne:e≠e') (hg:w.grownBy w' u.ownBlock):w'.ownsRow n0 e size v n xs:=by
 refine h.kept hg ?_
 rcases hv:v.ownBlock with _|k
 ·exact Or.inl rfl
 ·right
  intro e2
  obtain ⟨cs,h1⟩:=own_type h hv
  obtain ⟨cs',h2⟩:=own_type hu e2.symm
  rw [h1] at h2
  injection h2 with h2
  injection h2 with _ h2
  exact hne h2
end
section
open Go.RowKit Go.Sort Go.Lib
theorem xs_cells {w:World} {b off:Nat} {d:List Fx} (h:XsAt w b off d):∀j u,(cellsX d)[j]? = some u→w.cell? ⟨b,off+j,none⟩=some u:=by
 intro j u hj
 have hjl:=(List.getElem?_eq_some_iff.1 hj).1
 rw [cellsX_len] at hjl
 obtain ⟨c0,c1⟩:=h (j / 2) (by omega)
 obtain ⟨g0,g1⟩:=cellsX_get d (j / 2) (by omega)
 rcases Nat.mod_two_eq_zero_or_one j with h2|h2
 ·have e:j / 2 * 2=j:=by omega
  rw [e] at c0 g0
  rw [g0] at hj
  rw [c0];exact hj
 ·have e:j / 2 * 2+1=j:=by omega
  rw [show off+j / 2 * 2+1=off+j by omega] at c1
  rw [e] at g1
  rw [g1] at hj
  rw [c1];exact hj
set_option maxHeartbeats 2000000 in
set_option maxRecDepth 100000 in
theorem cloneX_any (v:Value) (d:List Fx) (w:World) (hv:IsXs w v d) (hs:d.length * 40≤140737488355328) :
  Calls Tryz.prog 225 #[v] w fun e w'=>∃u,e=.returned u∧w'.ownsRow w.heap.size 131 2 u d.length (cellsX d)∧Below w.heap.size w w':=by
 obtain ⟨i0,hi,hz0,hz1,hz2⟩:=info_parts Tryz.infoFld
 obtain ⟨p,cap,rfl,hd,_⟩:=hv
 have q22:∀(w:World) (a:Option Addr) (n c n' c':Nat),(binOp .eql 40 (.slice a n c) (.slice none n' c')).run Tryz.prog w=.ok (.bool a.isNone) w:=fun w a n c n' c'=>Lib.run_eql_slice_nil w _ _ a n c n' c' Tryz.underlying40
 have HD:=hid hd
 clear hd
 cases p with
 | none =>
  have h0:d=[]:=by
   rcases HD.out with h|⟨b,off,h,_⟩
   ·exact h
   ·cases h
  subst h0
  go_enter Tryz.func225,Tryz.ntmps225
  go_wp2_with fail
  go_ret
  exact ⟨_,rfl,World.ownsRow_nil _ _ _ _,Below.refl _ _⟩
 | some a =>
  have hcells:∀j u,(cellsX d)[j]? = some u→(w.alloc (.cells #[] 131)).cell? (a.add j)=some u:=by
   rcases HD.out with h|⟨b,off,h,hx⟩
   ·subst h;intro j u hj;simp [cellsX] at hj
   ·intro j u hj
    obtain rfl:a=⟨b,off,none⟩:=by simpa using h
    rw [addr_add]
    have:=xs_cells hx j u hj
    rw [World.cell?_alloc_lt _ _ ⟨b,off+j,none⟩ (cell_block this)];exact this
  have HC:=hid hcells
  clear hcells
  go_enter Tryz.func225,Tryz.ntmps225
  go_wp2_with (at_builtin;refine wpList_append_own _ rfl _ _ 40 rfl w.heap.size 131 i0 (.agg #[.string ⟨#[]⟩,.slice none 0 0]) 2 40 Tryz.underlying40 hi hz0 hz1 hz2 rfl (by decide) _ _ _ rfl (World.ownsRow_made w #[] 0 (Nat.le_refl _) (Nat.zero_le _) (by simp)) a d.length cap (cellsX d) rfl ?c0 ?c1 ?c2 ?c3 ?c4 ?c5 ?_)
  case c0=>exact cellsX_len d
  case c1=>exact HC.out
  case c2=>exact cellsX_one d
  case c3=>unfold maxLen;omega
  case c4=>omega
  case c5=>simp
  intro v' w1 hown hgrow hnil
  have hb1:Below w.heap.size w w1:=((Below.refl _ w).alloc (Nat.le_refl _) _).grown hgrow (by simp) (by intro k hk;simp [Value.ownBlock] at hk;omega)
  have HO:Hid (w1.ownsRow w.heap.size 131 2 v' d.length (cellsX d)):=hid (by simpa using hown)
  clear hown hgrow hnil
  go_wp2_with fail
  go_ret
  exact ⟨_,rfl,HO.out,hb1⟩
theorem flat_get (l:List Fx) (t:Nat) (h:t<l.length * 2):(l.flatMap encX)[t]? = some (encX (l[t / 2]!))[t % 2]!:=by
 induction l generalizing t with
 | nil=>simp at h
 | cons x l ih =>
  rw [List.flatMap_cons]
  by_cases h2:t<2
  ·rcases (show t=0∨t=1 by omega) with rfl|rfl<;>simp [encX]
  ·obtain ⟨u,rfl⟩:∃u,t=u+2:=⟨t-2,by omega⟩
   have hl:(encX x).length=2:=rfl
   rw [List.getElem?_append_right (by omega),hl,show u+2-2=u by omega,ih u (by simp at h;omega),show (u+2) / 2=u / 2+1 by omega,show (u+2) % 2=u % 2 by omega]
   simp
theorem holds_of_heap {w:World} {g:Nat} {cur:Array Value} {e:TypeId} (d:Array Fx) (hheap:w.heap[g]? = some (.cells cur e (0,0))) (htake:cur.toList.take (d.size * 2)=cellsX d.toList):HoldsK encX 2 w g 0 d:=by
 intro j hj
 rw [size_flatK] at hj
 have hg:=flat_get d.toList j (by simpa using hj)
 have h1:(cur.toList.take (d.size * 2))[j]? = some (encX (d.toList[j / 2]!))[j % 2]!:=by rw [htake];exact hg
 rw [List.getElem?_take_of_lt hj] at h1
 rw [get_flatK _ _ _ _ hj]
 constructor
 ·simp only [World.cell?,hheap,Nat.zero_add]
  have he:d.toList[j / 2]! = d[j / 2]!:=by
   rw [getElem!_pos d (j / 2) (by omega),getElem!_pos d.toList (j / 2) (by simp;omega)];simp
  rw [←Array.getElem?_toList,h1,he]
  rfl
 ·simp [World.frozen?,hheap]
theorem below_sortWorld {B:Nat} {w0 w:World} (h:Below B w0 w) (hB:B≤w.heap.size) (blk off n:Nat) (d:Array Fx) (os:Array Obj) (hb:B≤blk):Below B w0 (sortWorldK encX 2 w blk off n d os):=by
 refine h.trans ⟨rfl,rfl,rfl,?_,?_⟩
 ·simp [sortWorldK,putRowK]
 ·intro k hk
  have hks:k<w.heap.size:=by omega
  simp only [sortWorldK,Sort.grow,putRowK,putRow,mapBlock,Sort.ahead]
  rw [Array.getElem?_append_left (by simpa using hks),Array.getElem?_modify,if_neg (by omega)]
end
section
open Go.Sort
set_option linter.unusedSectionVars false
variable {α:Type} [Inhabited α] {κ:Type} [DecidableEq κ]
def Way (K:α→κ) (d dk:Array α):Prop:=PermIn 0 d.size d dk∧Stab K d dk
theorem Way.refl (K:α→κ) (d:Array α):Way K d d:=⟨permIn_refl _ _ _,Stab.refl K d⟩
theorem Way.size {K:α→κ} {d dk:Array α} (h:Way K d dk):dk.size=d.size:=h.1.1
theorem Way.step {K:α→κ} {d dk dl:Array α} {a b:Nat} (h:Way K d dk) (p:PermIn a b dk dl) (hb:b≤d.size) (s:Stab K dk dl):Way K d dl:=by
 have e:dk.size=d.size:=h.1.1
 exact ⟨permIn_trans _ _ _ _ _ h.1 (permIn_mono _ _ _ _ _ _ (Nat.zero_le _) hb (Nat.le_of_eq e.symm) p),h.2.trans s⟩
def SegTo (lt:α→α→Bool) (c q:Nat) (d:Array α):Prop:=∀t,t<q→SortedIn lt (t * c) (t * c+c) d
def SegFrom (lt:α→α→Bool) (c a n:Nat) (d:Array α):Prop:=∀t,SortedIn lt (a+t * c) (min (a+t * c+c) n) d
theorem sorted_out {lt:α→α→Bool} {a b x y:Nat} {d d':Array α} (p:PermIn a b d d') (h:SortedIn lt x y d) (hd:y≤a∨b≤x):SortedIn lt x y d':=fun i j h1 h2 h3=>by
 rw [p.2.1 i (by omega),p.2.1 j (by omega)]
 exact h i j h1 h2 h3
theorem sorted_mono {lt:α→α→Bool} {a b x y:Nat} {d:Array α} (h:SortedIn lt a b d) (h1:a≤x) (h2:y≤b):SortedIn lt x y d:=fun i j k1 k2 k3=>h i j (by omega) k2 (by omega)
theorem segTo_zero (lt:α→α→Bool) (c:Nat) (d:Array α):SegTo lt c 0 d:=fun _ ht=>absurd ht (Nat.not_lt_zero _)
theorem blk_le {t q:Nat} (c:Nat) (h:t<q):t * c+c≤q * c:=by
 have:=Nat.mul_le_mul_right c (show t+1≤q from h)
 rwa [Nat.add_mul,Nat.one_mul] at this
theorem SegTo.step {lt:α→α→Bool} {c q:Nat} {d d':Array α} (h:SegTo lt c q d) (p:PermIn (q * c) (q * c+c) d d') (s:SortedIn lt (q * c) (q * c+c) d'):SegTo lt c (q+1) d':=fun t ht=>by
 by_cases e:t<q
 ·exact sorted_out p (h t e) (Or.inl (blk_le c e))
 ·obtain rfl:t=q:=by omega
  exact s
theorem SegTo.last {lt:α→α→Bool} {c q n:Nat} {d d':Array α} (h:SegTo lt c q d) (hn:n<q * c+c) (p:PermIn (q * c) n d d') (s:SortedIn lt (q * c) n d'):SegFrom lt c 0 n d':=fun t=>by
 rw [Nat.zero_add]
 rcases Nat.lt_trichotomy t q with e|e|e
 ·exact sorted_mono (sorted_out p (h t e) (Or.inl (blk_le c e))) (Nat.le_refl _) (by omega)
 ·subst e
  exact sorted_mono s (Nat.le_refl _) (by omega)
 ·have:=blk_le c e
  intro i j h1 h2 h3
  omega
theorem SegFrom.first {lt:α→α→Bool} {c a n:Nat} {d:Array α} (h:SegFrom lt c a n d) (hn:a+c≤n):SortedIn lt a (a+c) d:=by
 have:=h 0
 rw [Nat.zero_mul,Nat.add_zero,Nat.min_eq_left hn] at this
 exact this
theorem SegFrom.second {lt:α→α→Bool} {c a n e:Nat} {d:Array α} (h:SegFrom lt c a n d) (h1:e≤a+c+c) (h2:e≤n):SortedIn lt (a+c) e d:=by
 have:=h 1
 rw [Nat.one_mul] at this
 exact sorted_mono this (Nat.le_refl _) (by omega)
theorem SegFrom.short {lt:α→α→Bool} {c a n:Nat} {d:Array α} (h:SegFrom lt c a n d) (hn:n≤a+c):SortedIn lt a n d:=by
 have:=h 0
 rw [Nat.zero_mul,Nat.add_zero,Nat.min_eq_right hn] at this
 exact this
theorem SegFrom.step {lt:α→α→Bool} {c a n:Nat} {d d':Array α} (h:SegFrom lt c a n d) (p:PermIn a (a+2 * c) d d'):SegFrom lt c (a+2 * c) n d':=fun t=>by
 have:=h (t+2)
 have e:a+(t+2) * c=a+2 * c+t * c:=by rw [Nat.add_mul];omega
 rw [e] at this
 exact sorted_out p this (Or.inr (by omega))
theorem merge_cut {lt:α→α→Bool} {K:α→κ} (hS:SWO lt) (hK:∀x y,lt x y=true→K x≠K y) {a s m e b mid:Nat} {d d1:Array α} (h:Rot s m e d d1) (has:a≤s) (hsm:s≤m) (hme:m≤e) (heb:e≤b) (hb:b≤d.size) (hmid:s+(e-m)=mid)
  (hL:SortedIn lt a m d) (hR:SortedIn lt m b d) (hlow:a<s→e<b→lt d[e]! d[s-1]! = false) (hhigh:s<m→m<e→lt d[e-1]! d[s]! = true) :
  SortedIn lt a s d1∧SortedIn lt s mid d1∧(¬ (a<s∧s<mid)→Mrg lt K a mid d1 d1) ∧
   (∀d2,Mrg lt K a mid d1 d2→SortedIn lt mid e d2∧SortedIn lt e b d2∧(¬ (mid<e∧e<b)→Mrg lt K mid b d2 d2)∧∀d3,Mrg lt K mid b d2 d3→Mrg lt K a b d d3):=by
 subst hmid
 obtain ⟨_,_,s1,s2,s3,s4,_⟩:=h.merge (K:=K) hS hK has hsm hme heb hb hL hR hlow hhigh
 refine ⟨s1,s2,fun hn=>Mrg.none ?_,fun d2 m2=>?_⟩
 ·by_cases e1:a<s
  ·rw [show s+(e-m)=s by omega];exact s1
  ·rw [show a=s by omega];exact s2
 ·have t3:=sorted_out m2.1 s3 (Or.inr (Nat.le_refl _))
  have t4:=sorted_out m2.1 s4 (Or.inr (by omega))
  refine ⟨t3,t4,fun hn=>Mrg.none ?_,fun d3 m3=>Mrg.of_rot hS hK h has hsm hme heb hb hL hR hlow hhigh m2 m3⟩
  by_cases e1:s+(e-m)<e
  ·rw [show b=e by omega];exact t3
  ·rw [show s+(e-m)=e by omega];exact t4
end
section
open Go.RowKit Go.Lib
theorem grownBy_refl (w:World) (g:Option Nat):w.grownBy w g:=⟨rfl,rfl,rfl,Nat.le_refl _,fun _ _ _=>rfl⟩
theorem wpList_append_rows {ops:Array Oper} {rest:List Oper} {o:Oper} {a:Act} {Q:Exit→Act→World→Prop} (w:World) (hgd:o.guard=none) (s x:Operand) (t:TypeId)
  (ho:o.op=.call { callee:=.builtin .append,args:=#[s,x],argTypes:=#[t,t] })
  (base:Nat) (e:TypeId) (i:TypeInfo) (z:Value) (size bytes:Nat) (ht:Tryz.prog.underlying t=some (.slice e)) (hi:Tryz.prog.info? e=some i) (hz:i.zero=some z)
  (hsize:i.size=size) (hby:i.bytes=bytes) (hzs:z.cells.size=size) (hsz:0<size)
  (v:Value) (n:Nat) (xs:List Value) (hs:a.eval s=v) (hown:w.ownsRow base e size v n xs)
  (p:Option Addr) (m c:Nat) (news:List Value) (hx:a.eval x=.slice p m c) (hl:news.length=m * size)
  (hsrc:m=0∨∃ad,p=some ad∧∀j u,news[j]? = some u→w.cell? (ad.add j)=some u) (h1:∀u∈news,u.oneCell'=true)
  (h63:n+m≤maxLen) (hbytes:(n+m) * bytes≤140737488355328) (hbase:base≤w.heap.size)
  (h:∀v' w',w'.ownsRow base e size v' (n+m) (xs++news)→w.grownBy w' v.ownBlock→wpList Tryz.prog ops Q rest (a.put o.dst v') w') :
  wpList Tryz.prog ops Q (o::rest) a w:=by
 rcases hsrc with rfl|⟨ad,rfl,hc⟩
 ·have hn:news=[]:=List.length_eq_zero_iff.1 (by simpa using hl)
  subst hn
  obtain ⟨q,cap,hv,hcap,hq⟩:∃q cap,v=.slice q n cap∧n≤cap∧(q=none→n=0∧cap=0):=by
   rcases hown.2 with ⟨hv,h0⟩|⟨g,cap,cur,hv,_,_,hc,_⟩
   ·exact ⟨none,0,by rw [hv,h0],by omega,fun _=>⟨h0,rfl⟩⟩
   ·exact ⟨_,cap,hv,hc,fun h=>by cases h⟩
  have hrun:(Builtin.append_ #[t,t] o.type #[.slice q n cap,.slice p 0 c]).run Tryz.prog w=.ok (.slice q n cap) w:=by
   cases q with
   | none =>
    obtain ⟨rfl,rfl⟩:=hq rfl
    cases p<;>simp [Builtin.append_,run_underlying ht,Builtin.lenOf,Builtin.firstCells,sizeOf,typeInfo,hi,loadCells,loadCellsFrom]
   | some q =>
    cases p<;>simp [Builtin.append_,run_underlying ht,Builtin.lenOf,Builtin.firstCells,sizeOf,typeInfo,hi,storeCells,loadCells,loadCellsFrom,hcap]
  rw [hv] at hs
  refine wpList_plain hgd fun K hK'=>?_
  unfold Oper.wp
  simp [execOp,ho,resolve,invoke,builtin,hs,hx,hrun,Result.andThen]
  refine hK' _ _ (h _ _ ?_ (grownBy_refl _ _))
  rw [←hv,List.append_nil]
  exact hown
 ·exact wpList_append_own _ hgd s x t ho base e i z size bytes ht hi hz hsize hby hzs hsz v n xs hs hown ad m c news hx hl hc h1 h63 hbytes hbase (fun v' w' h2 h3 _=>h v' w' h2 h3)
end
section
open Go.RowKit
structure Kind (α:Type) where
 T:TypeId
 k:Nat
 enc:α→List Value
 len:∀x,(enc x).length=k
 pos:0<k
 one:∀x,∀u∈enc x,u.oneCell'=true
def Kind.cells {α:Type} (K:Kind α) (d:List α):List Value:=d.flatMap K.enc
theorem Kind.cells_one {α:Type} (K:Kind α) (x:α):K.cells [x]=K.enc x:=by simp [Kind.cells]
theorem Kind.cells_append {α:Type} (K:Kind α) (a b:List α):K.cells (a++b)=K.cells a++K.cells b:=List.flatMap_append
theorem Kind.cells_len {α:Type} (K:Kind α) (d:List α):(K.cells d).length=d.length * K.k:=by
 induction d with
 | nil=>simp [Kind.cells]
 | cons x d ih =>
  have e:K.cells (x::d)=K.enc x++K.cells d:=rfl
  rw [e,List.length_append,K.len,ih,List.length_cons,Nat.add_mul,Nat.one_mul,Nat.add_comm]
theorem Kind.cells_get {α:Type} (K:Kind α) (d:List α) (i:Nat) (h:i<d.length) (j:Nat) (hj:j<K.k):(K.cells d)[i * K.k+j]? = (K.enc d[i])[j]?:=by
 induction d generalizing i with
 | nil=>simp at h
 | cons x d ih =>
  have e:K.cells (x::d)=K.enc x++K.cells d:=rfl
  rw [e]
  cases i with
  | zero=>rw [Nat.zero_mul,Nat.zero_add,List.getElem?_append_left (by rw [K.len];exact hj)];rfl
  | succ i =>
   have hl:(K.enc x).length≤(i+1) * K.k+j:=by rw [K.len,Nat.add_mul,Nat.one_mul];omega
   rw [List.getElem?_append_right hl,K.len]
   have e2:(i+1) * K.k+j-K.k=i * K.k+j:=by rw [Nat.add_mul,Nat.one_mul];omega
   rw [e2]
   exact ih i (by simpa using h)
theorem Kind.cells_ones {α:Type} (K:Kind α) (d:List α):∀u∈K.cells d,u.oneCell'=true:=by
 intro u hu
 obtain ⟨x,_,hx⟩:=List.mem_flatMap.1 hu
 exact K.one x u hx
def Kind.At {α:Type} (K:Kind α) (w:World) (b off:Nat) (d:List α):Prop :=
 ∀i,(h:i<d.length)→∀j u,(K.enc d[i])[j]? = some u→w.cell? ⟨b,off+i * K.k+j,none⟩=some u
def Kind.Is {α:Type} (K:Kind α) (w:World) (v:Value) (d:List α):Prop :=
 ∃p cap,v=.slice p d.length cap∧(d=[]∨∃b off,p=some ⟨b,off,none⟩∧K.At w b off d)
def Kind.Own {α:Type} (K:Kind α) (n0:Nat) (w:World) (v:Value) (d:List α):Prop:=w.ownsRow n0 K.T K.k v d.length (K.cells d)
theorem Kind.at_kept {α:Type} {K:Kind α} {w w':World} {b off:Nat} {d:List α} (h:K.At w b off d) (hb:Below w.heap.size w w'):K.At w' b off d :=
 fun i hi j u hu=>(hb.cell (p:=⟨b,off+i * K.k+j,none⟩) (cell_block (h i hi j u hu))).trans (h i hi j u hu)
theorem Kind.is_kept {α:Type} {K:Kind α} {w w':World} {v:Value} {d:List α} (h:K.Is w v d) (hb:Below w.heap.size w w'):K.Is w' v d:=by
 obtain ⟨p,cap,rfl,h⟩:=h
 refine ⟨p,cap,rfl,?_⟩
 rcases h with h|⟨b,off,hp,h⟩
 ·exact Or.inl h
 ·exact Or.inr ⟨b,off,hp,K.at_kept h hb⟩
theorem Kind.is_nil {α:Type} (K:Kind α) (w:World):K.Is w (.slice none 0 0) []:=⟨none,0,rfl,Or.inl rfl⟩
theorem Kind.own_nil {α:Type} (K:Kind α) (n0:Nat) (w:World):K.Own n0 w (.slice none 0 0) []:=World.ownsRow_nil _ _ _ _
theorem Kind.own_on {α:Type} {K:Kind α} {n0:Nat} {w w':World} {v:Value} {d:List α} (h:K.Own n0 w v d) (hb:Below w.heap.size w w'):K.Own n0 w' v d:=_root_.Go.Proofs.YtmhlcnmfbolgdaaGreat.own_on h hb
theorem Kind.own_weak {α:Type} {K:Kind α} {n0 n1:Nat} {w:World} {v:Value} {d:List α} (h:K.Own n0 w v d) (hn:n1≤n0):K.Own n1 w v d:=_root_.Go.Proofs.YtmhlcnmfbolgdaaGreat.own_weak h hn
theorem Kind.own_shape {α:Type} {K:Kind α} {n0:Nat} {w:World} {v:Value} {d:List α} (h:K.Own n0 w v d):∃p cap,v=.slice p d.length cap:=by
 rcases h.2 with ⟨hv,h0⟩|⟨g,cap,cur,hv,_⟩
 ·exact ⟨none,0,by rw [hv,h0]⟩
 ·exact ⟨_,_,hv⟩
theorem Kind.own_is {α:Type} {K:Kind α} {n0:Nat} {w:World} {v:Value} {d:List α} (h:K.Own n0 w v d):K.Is w v d:=by
 rcases h.2 with ⟨rfl,h0⟩|⟨g,c,cur,rfl,_,hg,_,_,hsz,htk⟩
 ·obtain rfl:=List.length_eq_zero_iff.1 h0
  exact K.is_nil w
 ·refine ⟨_,c,rfl,Or.inr ⟨g,0,rfl,fun i hi j u hu=>?_⟩⟩
  have hj:j<K.k:=by
   have:=(List.getElem?_eq_some_iff.1 hu).1
   rwa [K.len] at this
  have hlt:i * K.k+j<d.length * K.k:=by
   have h1:(i+1) * K.k≤d.length * K.k:=Nat.mul_le_mul_right _ hi
   rw [Nat.add_mul,Nat.one_mul] at h1
   omega
  rw [Nat.zero_add,cell_of_row w g _ cur _ _ hg,←Array.getElem?_toList]
  have:(K.cells d)[i * K.k+j]? = cur.toList[i * K.k+j]?:=by rw [←htk,List.getElem?_take,if_pos hlt]
  rw [←this,K.cells_get d i hi j hj,hu]
theorem Kind.src {α:Type} {K:Kind α} {w:World} {p:Option Addr} {d:List α} (h:d=[]∨∃b off,p=some ⟨b,off,none⟩∧K.At w b off d) :
  d.length=0∨∃ad,p=some ad∧∀j u,(K.cells d)[j]? = some u→w.cell? (ad.add j)=some u:=by
 rcases h with rfl|⟨b,off,rfl,hx⟩
 ·exact Or.inl rfl
 ·refine Or.inr ⟨_,rfl,fun j u hu=>?_⟩
  have hj:j<d.length * K.k:=by
   have:=(List.getElem?_eq_some_iff.1 hu).1
   rwa [K.cells_len] at this
  have hk:j / K.k<d.length:=(Nat.div_lt_iff_lt_mul K.pos).2 hj
  have hm:j % K.k<K.k:=Nat.mod_lt _ K.pos
  have e:j / K.k * K.k+j % K.k=j:=by rw [Nat.mul_comm];exact Nat.div_add_mod j K.k
  have hg:=K.cells_get d (j / K.k) hk (j % K.k) hm
  rw [e,hu] at hg
  have:=hx (j / K.k) hk (j % K.k) u hg.symm
  rw [addr_add]
  rw [Nat.add_assoc,e] at this
  exact this
theorem Kind.news {α:Type} (K:Kind α) (w:World) (x:α):∀j u,(K.cells [x])[j]? = some u→(w.alloc (.cells (K.enc x).toArray K.T)).cell? ((⟨w.heap.size,0,none⟩:Addr).add j)=some u:=by
 intro j u hu
 rw [K.cells_one] at hu
 rw [addr_add,Nat.zero_add,cell_of_row _ _ _ _ _ _ (heap_alloc_new w _)]
 simpa using hu
theorem Kind.own_snoc {α:Type} {K:Kind α} {n0:Nat} {w:World} {v:Value} {d:List α} {x:α} {n:Nat} {xs:List Value} (h:w.ownsRow n0 K.T K.k v n xs) (hn:n=d.length+1) (hx:xs=K.cells d++K.cells [x]):K.Own n0 w v (d++[x]):=by
 subst hn hx
 unfold Kind.Own
 rw [K.cells_append,List.length_append]
 exact h
end
section
open Go.RowKit
theorem own_same {w w':World} {n0:Nat} {e:TypeId} {size:Nat} {v:Value} {n:Nat} {xs:List Value} (h:w.ownsRow n0 e size v n xs) (hk:∀k,v.ownBlock=some k→w'.heap[k]? = w.heap[k]?):w'.ownsRow n0 e size v n xs:=by
 refine ⟨h.1,?_⟩
 rcases h.2 with h2|⟨g,cap,cur,hv,h3,h4,h5⟩
 ·exact Or.inl h2
 ·exact Or.inr ⟨g,cap,cur,hv,h3,(hk g (by rw [hv];rfl)).trans h4,h5⟩
structure Fr (P:Nat→Prop) (w W:World):Prop where
 os:W.os=w.os
 tape:W.tape=w.tape
 output:W.output=w.output
 size:w.heap.size≤W.heap.size
 block:∀k,k<w.heap.size→¬ P k→W.heap[k]? = w.heap[k]?
theorem Fr.refl (P:Nat→Prop) (w:World):Fr P w w:=⟨rfl,rfl,rfl,Nat.le_refl _,fun _ _ _=>rfl⟩
theorem Fr.then {P Q:Nat→Prop} {a b c:World} (h:Fr P a b) (k:Fr Q b c) (hQ:∀k,Q k→P k∨a.heap.size≤k):Fr P a c :=
 ⟨k.os.trans h.os,k.tape.trans h.tape,k.output.trans h.output,Nat.le_trans h.size k.size,fun j hj hn=>(k.block j (Nat.lt_of_lt_of_le hj h.size) fun hq=>by
  rcases hQ j hq with h1|h1
  ·exact hn h1
  ·omega).trans (h.block j hj hn)⟩
theorem Fr.mono {P Q:Nat→Prop} {w W:World} (h:Fr P w W) (hPQ:∀k,P k→Q k):Fr Q w W:=⟨h.os,h.tape,h.output,h.size,fun k hk hn=>h.block k hk fun hp=>hn (hPQ k hp)⟩
theorem Fr.of_below {P:Nat→Prop} {w W:World} (h:Below w.heap.size w W):Fr P w W:=⟨h.os,h.tape,h.output,h.size,fun k hk _=>h.block k hk⟩
theorem Fr.of_grown {P:Nat→Prop} {w W:World} {ob:Option Nat} (h:w.grownBy W ob) (hP:∀k,ob=some k→P k):Fr P w W :=
 ⟨h.os,h.tape,h.output,h.size,fun k hk hn=>h.block k hk fun e=>hn (hP k e.symm)⟩
theorem Fr.below {P:Nat→Prop} {w W:World} (h:Fr P w W) {N:Nat} (hN:N≤w.heap.size) (hP:∀k,P k→N≤k):Below N w W :=
 ⟨h.os,h.tape,h.output,h.size,fun k hk=>h.block k (by omega) fun hp=>by have:=hP k hp;omega⟩
theorem Fr.row {P:Nat→Prop} {w W:World} {n0:Nat} {e:TypeId} {size:Nat} {v:Value} {n:Nat} {xs:List Value} (f:Fr P w W) (h:w.ownsRow n0 e size v n xs) (hP:∀k,v.ownBlock=some k→¬ P k):W.ownsRow n0 e size v n xs :=
 own_same h fun k hk=>f.block k (World.ownsRow.lt h k hk).2 (hP k hk)
theorem Fr.cell {P:Nat→Prop} {w W:World} {a:Addr} {v:Value} (f:Fr P w W) (h:w.cell? a=some v) (hP:¬ P a.block):W.cell? a=some v :=
 (World.cell?_of_block (f.block a.block (cell_block h) hP)).trans h
end
section
open Go.RowKit Go.Lib
theorem cellsX_set (o:List Fx) (i:Nat) (h:i<o.length) (x:Fx):cellsX (o.set i x)=((cellsX o).set (i * 2) (.string x.name)).set (i * 2+1) x.sl:=by
 induction o generalizing i with
 | nil=>simp at h
 | cons y o ih =>
  have e:∀z l,cellsX (z::l)=.string z.name::z.sl::cellsX l:=fun _ _=>rfl
  cases i with
  | zero=>rw [List.set_cons_zero,e,e];rfl
  | succ i =>
   rw [List.set_cons_succ,e,e,ih i (by simpa using h),show (i+1) * 2=i * 2+1+1 by omega]
   rfl
def encSt (x:ByteArray):List Value:=[.string x]
def KT:Kind ByteArray:=⟨9,1,encSt,fun _=>rfl,by decide,fun x u hu=>by simp [encSt] at hu;subst hu;rfl⟩
theorem own_noneX (N:Nat) (w:World):OwnJ N w (.slice none 0 0) []:=⟨⟨World.ownsRow_nil _ _ _ _,fun x hx=>by simp at hx⟩,List.Pairwise.nil⟩
def CopyX (d:List Fx):Prop:=d.length * 40≤140737488355328∧∀x∈d,x.txt.length * 16≤140737488355328
theorem own_weakJ {N M:Nat} {w:World} {u:Value} {o:List Fx} (h:OwnJ N w u o) (hm:M≤N):OwnJ M w u o:=⟨⟨own_weak h.1.1 hm,fun x hx=>own_weak (h.1.2 x hx) hm⟩,h.2⟩
end
section
open Go.ChangeShapes Go.WideShapes Go.ChangeAt Go.RowKit Go.Lib Go.Deep Go.Joins
theorem Tryz.own:ownKnob Tryz.prog.godebug=none:=by kernel_rfl
theorem Tryz.laidOut:laidOutB Tryz.prog=true:=by kernel_rfl
end
section
structure Vr where
 num:Int
 stamp:Int
 tick:Int
 live:Bool
 val:List (ByteArray × List ByteArray)
 deriving Inhabited,DecidableEq
def zeroV:Vr:=⟨0,0,0,false,[]⟩
def cutV (l:List Vr) (t:Int):Nat:=(l.takeWhile fun v=>decide (v.stamp≤t)).length
def atV (l:List Vr) (t:Int):Option Vr:=if cutV l t=0 then none else l[cutV l t-1]?
def sinceV (l:List Vr) (t:Int):List Vr:=l.drop (cutV l t)
def pruneN (l:List Vr) (f:Int):Nat:=cutV l f-1
def pruneV (l:List Vr) (f:Int):List Vr:=l.drop (pruneN l f)
def RiseV (l:List Vr):Prop:=l.Pairwise fun a b=>a.stamp<b.stamp
structure OkV (l:List Vr):Prop where
 rise:RiseV l
 nums:∀i,(h:i+1<l.length)→(l[i+1]).num=(l[i]'(by omega)).num+1
 two:∀i,(h:i+1<l.length)→(l[i+1]).live=true∨(l[i]'(by omega)).live=true
 first:∀v∈l,1≤v.num∧0<v.stamp∧(v.num=1→v.live=true)∧(v.live=false→v.val=[])
theorem rise_lt {l:List Vr} (h:RiseV l) {i j:Nat} (hij:i<j) (hj:j<l.length):(l[i]'(by omega)).stamp<(l[j]).stamp:=List.pairwise_iff_getElem.1 h i j (by omega) hj hij
theorem cutV_le (l:List Vr) (t:Int):cutV l t≤l.length:=by
 unfold cutV
 exact (List.takeWhile_prefix _).length_le
theorem cutV_cons (v:Vr) (l:List Vr) (t:Int):cutV (v::l) t=if v.stamp≤t then cutV l t+1 else 0:=by
 unfold cutV
 by_cases h:v.stamp≤t
 ·rw [List.takeWhile_cons_of_pos (by simpa using h),if_pos h];rfl
 ·rw [List.takeWhile_cons_of_neg (by simpa using h),if_neg h];rfl
theorem cutV_below:∀(l:List Vr) (t:Int) (i:Nat) (h:i<l.length),i<cutV l t→(l[i]).stamp≤t
 | [],_,i,h,_=>by simp at h
 | v::l,t,i,h,hc=>by
  rw [cutV_cons] at hc
  by_cases hv:v.stamp≤t
  ·rw [if_pos hv] at hc
   cases i with
   | zero=>exact hv
   | succ i=>exact cutV_below l t i (by simpa using h) (by omega)
  ·rw [if_neg hv] at hc;omega
theorem cutV_above:∀(l:List Vr),RiseV l→∀(t:Int) (i:Nat) (h:i<l.length),cutV l t≤i→t<(l[i]).stamp
 | [],_,_,i,h,_=>by simp at h
 | v::l,hr,t,i,h,hc=>by
  obtain ⟨h1,h2⟩:=List.pairwise_cons.1 hr
  rw [cutV_cons] at hc
  by_cases hv:v.stamp≤t
  ·rw [if_pos hv] at hc
   cases i with
   | zero=>omega
   | succ i=>exact cutV_above l h2 t i (by simpa using h) (by omega)
  ·cases i with
   | zero=>exact Int.not_le.1 hv
   | succ i =>
    have:=h1 (l[i]'(by simpa using h)) (List.getElem_mem _)
    simp only [List.getElem_cons_succ]
    omega
theorem cutV_uniq {l:List Vr} (hr:RiseV l) {t:Int} {n:Nat} (hn:n≤l.length) (h1:∀i,(h:i<l.length)→i<n→(l[i]).stamp≤t) (h2:∀i,(h:i<l.length)→n≤i→t<(l[i]).stamp):cutV l t=n:=by
 have hc:=cutV_le l t
 rcases Nat.lt_trichotomy (cutV l t) n with h|h|h
 ·have a:=h1 (cutV l t) (by omega) h
  have b:=cutV_above l hr t (cutV l t) (by omega) (Nat.le_refl _)
  omega
 ·exact h
 ·have a:=h2 n (by omega) (Nat.le_refl _)
  have b:=cutV_below l t n (by omega) h
  omega
theorem rise_drop {l:List Vr} (h:RiseV l) (n:Nat):RiseV (l.drop n):=h.sublist (List.drop_sublist n l)
theorem cutV_drop {l:List Vr} (hr:RiseV l) {t:Int} {n:Nat} (hn:n≤cutV l t):cutV (l.drop n) t=cutV l t-n:=by
 have hc:=cutV_le l t
 refine cutV_uniq (rise_drop hr n) (by rw [List.length_drop];omega) (fun i h hi=>?_) (fun i h hi=>?_)
 ·rw [List.length_drop] at h
  rw [List.getElem_drop]
  exact cutV_below l t _ (by omega) (by omega)
 ·rw [List.length_drop] at h
  rw [List.getElem_drop]
  exact cutV_above l hr t _ (by omega) (by omega)
theorem cutV_mono {l:List Vr} (hr:RiseV l) {t u:Int} (h:t≤u):cutV l t≤cutV l u:=by
 have hc:=cutV_le l t
 have hd:=cutV_le l u
 rcases Nat.lt_or_ge (cutV l u) (cutV l t) with hlt|hge
 ·have a:=cutV_below l t (cutV l u) (by omega) hlt
  have b:=cutV_above l hr u (cutV l u) (by omega) (Nat.le_refl _)
  omega
 ·exact hge
theorem prune_at {l:List Vr} (hr:RiseV l) {f t:Int} (h:f≤t):atV (pruneV l f) t=atV l t:=by
 have hm:=cutV_mono hr h
 unfold atV pruneV pruneN
 rw [cutV_drop hr (by omega)]
 by_cases h0:cutV l t=0
 ·rw [if_pos h0,if_pos (by omega)]
 ·by_cases h1:cutV l f=0
  ·rw [h1];simp
  ·rw [if_neg h0,if_neg (by omega),List.getElem?_drop]
   congr 1
   omega
theorem prune_last (l:List Vr) (f:Int):(pruneV l f).getLast? = l.getLast?:=by
 unfold pruneV pruneN
 have hc:=cutV_le l f
 rw [List.getLast?_eq_getElem?,List.getLast?_eq_getElem?,List.getElem?_drop,List.length_drop]
 by_cases h0:l.length=0
 ·rw [List.length_eq_zero_iff.1 h0];simp
 ·congr 1
  omega
theorem prune_len (l:List Vr) (f:Int):(pruneV l f).length=l.length-pruneN l f:=by unfold pruneV;rw [List.length_drop]
theorem ok_nil:OkV []:=⟨List.Pairwise.nil,fun i h=>by simp at h,fun i h=>by simp at h,fun v h=>by cases h⟩
theorem ok_drop {l:List Vr} (h:OkV l) (n:Nat):OkV (l.drop n):=by
 refine ⟨rise_drop h.rise n,fun i hi=>?_,fun i hi=>?_,fun v hv=>h.first v (List.mem_of_mem_drop hv)⟩
 ·rw [List.length_drop] at hi
  rw [List.getElem_drop,List.getElem_drop]
  exact h.nums (n+i) (by omega)
 ·rw [List.length_drop] at hi
  rw [List.getElem_drop,List.getElem_drop]
  exact h.two (n+i) (by omega)
theorem ok_prune {l:List Vr} (h:OkV l) (f:Int):OkV (pruneV l f):=ok_drop h _
theorem ok_num {l:List Vr} (h:OkV l):∀i,(hi:i<l.length)→(l[i]).num=(l[0]'(by omega)).num+i
 | 0,_=>by simp
 | i+1,hi=>by
  rw [h.nums i hi,ok_num h i (by omega)]
  omega
def lastV (l:List Vr):Vr:=l.getLast?.getD zeroV
def putCode (old field none:Int) (may:Bool) (l:List Vr) (stamp:Int) (live:Bool):Int :=
 if stamp=0∨stamp≤(lastV l).stamp then old else if live=true∧may=false then field else if live=false∧(lastV l).live=false then none else 0
def putV (l:List Vr) (stamp tick:Int) (live:Bool) (val:List (ByteArray × List ByteArray)):List Vr:=l++[⟨(lastV l).num+1,stamp,tick,live,if live then val else []⟩]
theorem lastV_snoc (l:List Vr) (v:Vr):lastV (l++[v])=v:=by simp [lastV]
theorem lastV_get {l:List Vr} (h:0<l.length):lastV l=l[l.length-1]:=by
 unfold lastV
 rw [List.getLast?_eq_getElem?,List.getElem?_eq_getElem (by omega)]
 rfl
theorem ok_put {l:List Vr} (h:OkV l) {old field none:Int} {may:Bool} {stamp tick:Int} {live:Bool} {val:List (ByteArray × List ByteArray)} (h0:0≤stamp) (e1:old≠0) (e2:field≠0) (e3:none≠0) (hc:putCode old field none may l stamp live=0):OkV (putV l stamp tick live val):=by
 unfold putCode at hc
 split at hc
 ·exact absurd hc e1
 ·next hs =>
  split at hc
  ·exact absurd hc e2
  ·split at hc
   ·exact absurd hc e3
   ·next hl =>
    have hl':live=true∨(lastV l).live=true:=by
     cases live
     ·right
      cases hx:(lastV l).live
      ·exact absurd ⟨rfl,hx⟩ hl
      ·rfl
     ·exact Or.inl rfl
    have hs':¬ stamp=0∧(lastV l).stamp<stamp:=⟨fun e=>hs (Or.inl e),Int.not_le.1 fun e=>hs (Or.inr e)⟩
    refine ⟨?_,fun i hi=>?_,fun i hi=>?_,fun v hv=>?_⟩
    ·refine List.pairwise_append.2 ⟨h.rise,List.pairwise_singleton _ _,fun a ha b hb=>?_⟩
     rw [List.mem_singleton] at hb
     subst hb
     obtain ⟨i,hi,rfl⟩:=List.mem_iff_getElem.1 ha
     have hg:=lastV_get (l:=l) (by omega)
     show (l[i]).stamp<stamp
     rcases Nat.lt_or_ge i (l.length-1) with hlt|hge
     ·have:=rise_lt h.rise hlt (by omega)
      rw [hg] at hs'
      omega
     ·have e:i=l.length-1:=by omega
      subst e
      rw [hg] at hs'
      exact hs'.2
    ·unfold putV at hi ⊢
     rw [List.length_append,List.length_singleton] at hi
     rcases Nat.lt_or_ge (i+1) l.length with hlt|hge
     ·rw [List.getElem_append_left hlt,List.getElem_append_left (by omega)]
      exact h.nums i hlt
     ·have e:i=l.length-1:=by omega
      subst e
      rw [List.getElem_append_right (by omega),List.getElem_append_left (by omega)]
      simp only [List.getElem_singleton]
      rw [lastV_get (by omega)]
    ·unfold putV at hi ⊢
     rw [List.length_append,List.length_singleton] at hi
     rcases Nat.lt_or_ge (i+1) l.length with hlt|hge
     ·rw [List.getElem_append_left hlt,List.getElem_append_left (by omega)]
      exact h.two i hlt
     ·have e:i=l.length-1:=by omega
      subst e
      rw [List.getElem_append_right (by omega),List.getElem_append_left (by omega)]
      simp only [List.getElem_singleton]
      rw [lastV_get (by omega)] at hl'
      exact hl'
    ·unfold putV at hv
     rw [List.mem_append,List.mem_singleton] at hv
     rcases hv with hv|rfl
     ·exact h.first v hv
     ·have hn:0≤(lastV l).num∧((lastV l).live=true→1≤(lastV l).num):=by
       rcases Nat.eq_zero_or_pos l.length with e|e
       ·obtain rfl:=List.length_eq_zero_iff.1 e
        exact ⟨Int.le_refl _,fun h=>by cases h⟩
       ·rw [lastV_get e]
        have:=(h.first _ (List.getElem_mem (show l.length-1<l.length by omega))).1
        exact ⟨by omega,fun _=>this⟩
      refine ⟨by show 1≤(lastV l).num+1;omega,by show 0<stamp;omega,fun e=>?_,fun e=>?_⟩
      ·show live=true
       rcases hl' with hl'|hl'
       ·exact hl'
       ·have:=hn.2 hl'
        have e':(lastV l).num+1=1:=e
        omega
      ·have e':live=false:=e
       show (if live=true then val else [])=[]
       rw [e'];rfl
end
section
open Go.RowKit
structure Vx where
 num:Int
 stamp:Int
 tick:Int
 live:Bool
 p:Option Addr
 cap:Nat
 o:List Fx
 deriving Inhabited
def Vx.sl (x:Vx):Value:=.slice x.p x.o.length x.cap
def Vx.ver (x:Vx):Vr:=⟨x.num,x.stamp,x.tick,x.live,x.o.map Fx.fld⟩
def Vx.at (w:World) (x:Vx):Prop:=IsXs w x.sl x.o
def encVx (x:Vx):List Value:=[.int .i64 x.num,.int .u64 x.stamp,.int .i64 x.tick,.bool x.live,x.sl]
def KV:Kind Vx:=⟨46,5,encVx,fun _=>rfl,by decide,fun x u hu=>by simp [encVx,Vx.sl] at hu;rcases hu with rfl|rfl|rfl|rfl|rfl<;>rfl⟩
theorem kv_at {w:World} {b off:Nat} {d:List Vx} (h:KV.At w b off d) (i:Nat) (hi:i<d.length) :
  w.cell? ⟨b,off+i * 5,none⟩=some (.int .i64 (d[i]).num)∧w.cell? ⟨b,off+i * 5+1,none⟩=some (.int .u64 (d[i]).stamp)∧w.cell? ⟨b,off+i * 5+2,none⟩=some (.int .i64 (d[i]).tick)∧w.cell? ⟨b,off+i * 5+3,none⟩=some (.bool (d[i]).live)∧w.cell? ⟨b,off+i * 5+4,none⟩=some (d[i]).sl :=
 ⟨h i hi 0 _ rfl,h i hi 1 _ rfl,h i hi 2 _ rfl,h i hi 3 _ rfl,h i hi 4 _ rfl⟩
def CellsV (w:World) (b a:Nat) (x:Vx):Prop:=w.cell? ⟨b,a,none⟩=some (.int .i64 x.num)∧w.cell? ⟨b,a+1,none⟩=some (.int .u64 x.stamp)∧w.cell? ⟨b,a+2,none⟩=some (.int .i64 x.tick)∧w.cell? ⟨b,a+3,none⟩=some (.bool x.live)∧w.cell? ⟨b,a+4,none⟩=some x.sl
end
section
open Go.RowKit
set_option maxHeartbeats 1000000 in
theorem id_any (n:Int) (w:World):Calls Tryz.prog 301 #[.int .u8 n] w fun e w'=>e=.returned (.bool (idB n))∧w'=w:=by
 go_enter Tryz.func301,Tryz.ntmps301
 go_wp2
 all_goals go_ret
 all_goals refine ⟨ret_bool ?_,rfl⟩
 all_goals (rw [Bool.eq_iff_iff];simp_all [idB,lodB,digB,letB,bigB,smallB];try omega)
set_option maxHeartbeats 1000000 in
theorem spelled_type (s:ByteArray) (w:World) (hs:s.size≤maxLen) :
  Calls Tryz.prog 298 #[.string s,.func (.func 299) #[] #[],.func (.func 300) #[] #[]] w fun e w'=>e=.returned (.bool (typeB s.data.toList))∧w'=w:=by
 unfold maxLen at hs
 by_cases he:s.size=0
 ·have hb:=spell_empty bigB letB s he
  have hlt:(s.size:Int)<1:=by omega
  have HB:Hid (spell bigB letB s.data.toList=false):=hb
  clear he hb
  go_enter Tryz.func298,Tryz.ntmps298
  go_wp2_with fail
  go_ret
  exact ⟨ret_bool HB.out.symm,rfl⟩
 have hpos:0<s.size:=by omega
 have hnl:¬ (s.size:Int)<1:=by omega
 by_cases hl:32<s.size
 ·have hb:=spell_long bigB letB s hl
  have HB:Hid (spell bigB letB s.data.toList=false):=hb
  have hgt:(32:Int)<(s.size:Int):=by omega
  clear he hb
  go_enter Tryz.func298,Tryz.ntmps298
  go_wp2_with fail
  go_ret
  exact ⟨ret_bool HB.out.symm,rfl⟩
 have hle:¬ (32:Int)<(s.size:Int):=by omega
 clear he
 cases hc:bigB (s[0].toNat:Int) with
 | false =>
  have HB:Hid (spell bigB letB s.data.toList=false):=spell_first bigB letB s hpos hc
  go_enter Tryz.func298,Tryz.ntmps298
  go_wp2_with (go_at_call 299;refine (big_any _ _).mono ?_;rintro e w' ⟨rfl,rfl⟩)
  go_ret
  exact ⟨ret_bool HB.out.symm,rfl⟩
 | true =>
  have HT:Hid ((∀k,1≤k→(hk:k<s.size)→letB (s[k].toNat:Int)=true)→spell bigB letB s.data.toList=true):=spell_true bigB letB s hpos (by omega) hc
  have HA:Hid (∀k,1≤k→(hk:k<s.size)→letB (s[k].toNat:Int)=false→spell bigB letB s.data.toList=false):=fun k h1 hk=>spell_at bigB letB s k h1 hk
  go_enter Tryz.func298,Tryz.ntmps298
  go_wp2_with (go_at_call 299;refine (big_any _ _).mono ?_;rintro e w' ⟨rfl,rfl⟩)
  go_loop [7] (fun i=>∃k:Nat,1≤k∧k≤s.size∧i=.int .i64 k∧(∀j,1≤j→j<k→(hj:j<s.size)→letB (s[j].toNat:Int)=true)) (fun i=>s.size-(intOf i).toNat)
  case atStart=>exact ⟨1,by omega,by omega,rfl,fun j h1 h2=>by omega⟩
  case round =>
   obtain ⟨k,hk1,hk,rfl,hall⟩:=hrel
   have HL:Hid (∀j,1≤j→j<k→(hj:j<s.size)→letB (s[j].toNat:Int)=true):=hall
   clear hall
   by_cases hlt:k<s.size
   ·cases hd:letB (s[k].toNat:Int) with
    | false =>
     go_wp2_with (go_at_call 300;refine (letter_any _ _).mono ?_;rintro e w' ⟨rfl,rfl⟩)
     go_ret
     exact ⟨ret_bool (HA.out k hk1 hlt hd).symm,rfl⟩
    | true =>
     go_wp2_with (go_at_call 300;refine (letter_any _ _).mono ?_;rintro e w' ⟨rfl,rfl⟩)
     go_round
     case rel =>
      refine ⟨k+1,by omega,by omega,by go_num,fun j h1 h2 hj=>?_⟩
      by_cases hjk:j=k
      ·subst hjk;exact hd
      ·exact HL.out j h1 (by omega) hj
     case measure=>simp [intOf];omega
   ·go_wp2_with fail
    go_ret
    exact ⟨ret_bool (HT.out fun j h1 hj=>HL.out j h1 (by omega) hj).symm,rfl⟩
set_option maxHeartbeats 1000000 in
theorem type_any (s:ByteArray) (w:World) (hs:s.size≤maxLen) :
  Calls Tryz.prog 222 #[.string s] w fun e w'=>e=.returned (.bool (typeB s.data.toList))∧w'=w:=by
 go_enter Tryz.func222,Tryz.ntmps222
 go_wp2_with (go_at_call 298;refine (spelled_type _ _ hs).mono ?_;rintro e w' ⟨rfl,rfl⟩)
 go_ret
 exact ⟨rfl,rfl⟩
set_option maxHeartbeats 1000000 in
theorem spelled_iden (s:ByteArray) (w:World) (hs:s.size≤maxLen) :
  Calls Tryz.prog 298 #[.string s,.func (.func 301) #[] #[],.func (.func 301) #[] #[]] w fun e w'=>e=.returned (.bool (idenB s.data.toList))∧w'=w:=by
 unfold maxLen at hs
 by_cases he:s.size=0
 ·have hb:=spell_empty idB idB s he
  have hlt:(s.size:Int)<1:=by omega
  have HB:Hid (spell idB idB s.data.toList=false):=hb
  clear he hb
  go_enter Tryz.func298,Tryz.ntmps298
  go_wp2_with fail
  go_ret
  exact ⟨ret_bool HB.out.symm,rfl⟩
 have hpos:0<s.size:=by omega
 have hnl:¬ (s.size:Int)<1:=by omega
 by_cases hl:32<s.size
 ·have hb:=spell_long idB idB s hl
  have HB:Hid (spell idB idB s.data.toList=false):=hb
  have hgt:(32:Int)<(s.size:Int):=by omega
  clear he hb
  go_enter Tryz.func298,Tryz.ntmps298
  go_wp2_with fail
  go_ret
  exact ⟨ret_bool HB.out.symm,rfl⟩
 have hle:¬ (32:Int)<(s.size:Int):=by omega
 clear he
 cases hc:idB (s[0].toNat:Int) with
 | false =>
  have HB:Hid (spell idB idB s.data.toList=false):=spell_first idB idB s hpos hc
  go_enter Tryz.func298,Tryz.ntmps298
  go_wp2_with (go_at_call 301;refine (id_any _ _).mono ?_;rintro e w' ⟨rfl,rfl⟩)
  go_ret
  exact ⟨ret_bool HB.out.symm,rfl⟩
 | true =>
  have HT:Hid ((∀k,1≤k→(hk:k<s.size)→idB (s[k].toNat:Int)=true)→spell idB idB s.data.toList=true):=spell_true idB idB s hpos (by omega) hc
  have HA:Hid (∀k,1≤k→(hk:k<s.size)→idB (s[k].toNat:Int)=false→spell idB idB s.data.toList=false):=fun k h1 hk=>spell_at idB idB s k h1 hk
  go_enter Tryz.func298,Tryz.ntmps298
  go_wp2_with (go_at_call 301;refine (id_any _ _).mono ?_;rintro e w' ⟨rfl,rfl⟩)
  go_loop [7] (fun i=>∃k:Nat,1≤k∧k≤s.size∧i=.int .i64 k∧(∀j,1≤j→j<k→(hj:j<s.size)→idB (s[j].toNat:Int)=true)) (fun i=>s.size-(intOf i).toNat)
  case atStart=>exact ⟨1,by omega,by omega,rfl,fun j h1 h2=>by omega⟩
  case round =>
   obtain ⟨k,hk1,hk,rfl,hall⟩:=hrel
   have HL:Hid (∀j,1≤j→j<k→(hj:j<s.size)→idB (s[j].toNat:Int)=true):=hall
   clear hall
   by_cases hlt:k<s.size
   ·cases hd:idB (s[k].toNat:Int) with
    | false =>
     go_wp2_with (go_at_call 301;refine (id_any _ _).mono ?_;rintro e w' ⟨rfl,rfl⟩)
     go_ret
     exact ⟨ret_bool (HA.out k hk1 hlt hd).symm,rfl⟩
    | true =>
     go_wp2_with (go_at_call 301;refine (id_any _ _).mono ?_;rintro e w' ⟨rfl,rfl⟩)
     go_round
     case rel =>
      refine ⟨k+1,by omega,by omega,by go_num,fun j h1 h2 hj=>?_⟩
      by_cases hjk:j=k
      ·subst hjk;exact hd
      ·exact HL.out j h1 (by omega) hj
     case measure=>simp [intOf];omega
   ·go_wp2_with fail
    go_ret
    exact ⟨ret_bool (HT.out fun j h1 hj=>HL.out j h1 (by omega) hj).symm,rfl⟩
set_option maxHeartbeats 1000000 in
theorem iden_any (s:ByteArray) (w:World) (hs:s.size≤maxLen) :
  Calls Tryz.prog 223 #[.string s] w fun e w'=>e=.returned (.bool (idenB s.data.toList))∧w'=w:=by
 go_enter Tryz.func223,Tryz.ntmps223
 go_wp2_with (go_at_call 298;refine (spelled_iden _ _ hs).mono ?_;rintro e w' ⟨rfl,rfl⟩)
 go_ret
 exact ⟨rfl,rfl⟩
end
section
theorem ix_cases (l:List UInt8) (c:UInt8) :
  (Lib.indexByte l c=-1∧c ∉ l)∨∃i:Nat,Lib.indexByte l c=(i:Int)∧i<l.length∧l[i]? = some c∧c ∉ l.take i:=by
 induction l with
 | nil=>left;exact ⟨rfl,by simp⟩
 | cons b l ih =>
  by_cases hb:b=c
  ·right
   refine ⟨0,?_,by simp,by simp [hb],by simp⟩
   unfold Lib.indexByte;simp [hb]
  ·have hbc:(b==c)=false:=by simp [hb]
   rcases ih with ⟨h1,h2⟩|⟨i,h1,h2,h3,h4⟩
   ·left
    refine ⟨?_,?_⟩
    ·unfold Lib.indexByte;rw [hbc];simp [h1]
    ·simp only [List.mem_cons,not_or];exact ⟨fun h=>hb h.symm,h2⟩
   ·right
    refine ⟨i+1,?_,by simp;omega,by simpa using h3,?_⟩
    ·unfold Lib.indexByte;rw [hbc,h1]
     have:((i:Int) == -1)=false:=by rw [beq_eq_false_iff_ne];omega
     simp [this]
    ·simp only [List.take_succ_cons,List.mem_cons,not_or];exact ⟨fun h=>hb h.symm,h4⟩
end
section
open Go.RowKit
set_option maxHeartbeats 400000 in
theorem cutl_no (s:ByteArray) (c:UInt8) (w:World) (hix:Lib.indexByte s.data.toList c=-1) :
  Calls Tryz.prog 406 #[.string s,.string ⟨#[c]⟩] w fun e w'=>e=.returned (.tuple #[.string s,.string ⟨#[]⟩,.bool false])∧w'=w:=by
 have HX:Hid (Lib.indexByte s.data.toList c=-1):=hix
 clear hix
 go_enter Tryz.func406,Tryz.ntmps406
 go_wp2_with (go_at_call 407;refine (Tryz.stringslite_Index_one _ _ _).mono ?_;rintro e w' ⟨rfl,rfl⟩;rw [HX.out])
 go_ret3
 exact ⟨rfl,rfl⟩
set_option maxHeartbeats 400000 in
theorem cutl_yes (s:ByteArray) (c:UInt8) (w:World) (i:Nat) (hix:Lib.indexByte s.data.toList c=(i:Int)) (hi:i<s.size) (hs:s.size≤maxLen) :
  Calls Tryz.prog 406 #[.string s,.string ⟨#[c]⟩] w fun e w'=>e=.returned (.tuple #[.string (s.extract 0 i),.string (s.extract (i+1) s.size),.bool true])∧∃n,w'=w.drewN n:=by
 have HX:Hid (Lib.indexByte s.data.toList c=(i:Int)):=hix
 clear hix
 unfold maxLen at hs
 have c1:(0:Int)≤↑i:=by omega
 have c2:(↑i:Int)≤↑s.size:=by omega
 have c3:(0:Int)≤↑i+1:=by omega
 have c4:(↑i+1:Int)≤↑s.size:=by omega
 go_enter Tryz.func406,Tryz.ntmps406
 go_wp2_with (go_at_call 407;refine (Tryz.stringslite_Index_one _ _ _).mono ?_;rintro e w' ⟨rfl,rfl⟩;rw [HX.out])
 go_quiet (fail)
 go_wp2_with fail
 go_ret3
 exact ⟨rfl,_,rfl⟩
set_option maxHeartbeats 400000 in
theorem cut_no (s:ByteArray) (c:UInt8) (w:World) (hix:Lib.indexByte s.data.toList c=-1) :
  Calls Tryz.prog 397 #[.string s,.string ⟨#[c]⟩] w fun e w'=>e=.returned (.tuple #[.string s,.string ⟨#[]⟩,.bool false])∧w'=w:=by
 have HX:Hid (Lib.indexByte s.data.toList c=-1):=hix
 clear hix
 go_enter Tryz.func397,Tryz.ntmps397
 go_wp2_with (go_at_call 406;refine (cutl_no _ _ _ HX.out).mono ?_;rintro e w' ⟨rfl,rfl⟩)
 go_ret3
 exact ⟨rfl,rfl⟩
set_option maxHeartbeats 400000 in
theorem cut_yes (s:ByteArray) (c:UInt8) (w:World) (i:Nat) (hix:Lib.indexByte s.data.toList c=(i:Int)) (hi:i<s.size) (hs:s.size≤maxLen) :
  Calls Tryz.prog 397 #[.string s,.string ⟨#[c]⟩] w fun e w'=>e=.returned (.tuple #[.string (s.extract 0 i),.string (s.extract (i+1) s.size),.bool true])∧∃n,w'=w.drewN n:=by
 have HX:Hid (Lib.indexByte s.data.toList c=(i:Int)):=hix
 clear hix
 go_enter Tryz.func397,Tryz.ntmps397
 go_wp2_with (go_at_call 406;refine (cutl_yes _ _ _ i HX.out hi hs).mono ?_;rintro e w' ⟨rfl,n,rfl⟩)
 go_ret3
 exact ⟨rfl,n,rfl⟩
end
section
open Go.RowKit
def keyB (a b:ByteArray):Bool:=typeB a.data.toList&&idenB b.data.toList
set_option maxHeartbeats 400000 in
theorem key_any (a b:ByteArray) (w:World) (ha:a.size≤maxLen) (hb:b.size≤maxLen) :
  Calls Tryz.prog 143 #[.agg #[.string a,.string b]] w fun e w'=>e=.returned (.bool (keyB a b))∧Below w.heap.size w w':=by
 have HK:Hid (keyB a b=(typeB a.data.toList&&idenB b.data.toList)):=rfl
 cases ht:typeB a.data.toList
 all_goals
  go_enter Tryz.func143,Tryz.ntmps143
  go_wp2_with (first|(go_at_call 222;refine (type_any _ _ ha).mono ?_;rintro e w' ⟨rfl,rfl⟩)|(go_at_call 223;refine (iden_any _ _ hb).mono ?_;rintro e w' ⟨rfl,rfl⟩))
  go_ret
  exact ⟨ret_bool (by rw [HK.out,ht];rfl),(Below.refl _ _).alloc (Nat.le_refl _) _⟩
theorem typeB_len {l:List UInt8} (h:typeB l=true):l.length≤32:=by
 cases l with
 | nil=>simp
 | cons c r=>simp [typeB,spell] at h;simp;omega
theorem idenB_len {l:List UInt8} (h:idenB l=true):l.length≤32:=by
 cases l with
 | nil=>simp
 | cons c r=>simp [idenB,spell] at h;simp;omega
end
namespace Z
open Go.RowKit
def orI (x y:Int):Int:=if x=0 then y else x
set_option maxHeartbeats 400000 in
theorem zor_any (x y:Int) (b:Nat) (w:World) (h0:w.cell? ⟨b,0,none⟩=some (.int .i64 x)) (h1:w.cell? ⟨b,1,none⟩=some (.int .i64 y)) :
  Calls Tryz.prog 250 #[.slice (some ⟨b,0,none⟩) 2 2] w fun e w'=>e=.returned (.int .i64 (orI x y))∧w'=w:=by
 by_cases hx:x=0
 ·have HO:Hid (orI x y=y):=if_pos hx
  subst hx
  by_cases hy:y=0
  ·subst hy
   go_enter Tryz.func250,Tryz.ntmps250
   go_wp2
   refine wp_loop_rounds 3 ?_
   rw [rounds_succ];go_wp2
   rw [rounds_succ];go_wp2
   rw [rounds_succ];go_wp2
   go_ret
   exact ⟨ret_int HO.out.symm,rfl⟩
  ·have hyb:(y != 0)=true:=by simp [hy]
   clear hy
   go_enter Tryz.func250,Tryz.ntmps250
   go_wp2
   refine wp_loop_rounds 3 ?_
   rw [rounds_succ];go_wp2
   rw [rounds_succ];go_wp2
   go_ret
   exact ⟨ret_int HO.out.symm,rfl⟩
 ·have HO:Hid (orI x y=x):=if_neg hx
  have hxb:(x != 0)=true:=by simp [hx]
  clear hx
  go_enter Tryz.func250,Tryz.ntmps250
  go_wp2
  refine wp_loop_rounds 3 ?_
  rw [rounds_succ];go_wp2
  go_ret
  exact ⟨ret_int HO.out.symm,rfl⟩
attribute [local go_sem] Go.wp_at_zero Go.wp_at_succ
def cmpI (a b c d:ByteArray):Int:=orI (Lib.compareBytes a.data.toList c.data.toList) (Lib.compareBytes b.data.toList d.data.toList)
set_option maxHeartbeats 800000 in
theorem compare_eq (a b c d:ByteArray) (w:World) :
  Calls Tryz.prog 166 #[.agg #[.string a,.string b],.agg #[.string c,.string d]] w fun e w'=>e=.returned (.int .i64 (cmpI a b c d)) ∧
   w'=(((w.alloc (.cells #[.string a,.string b] 39)).alloc (.cells #[.string c,.string d] 39)).alloc (.cells #[.int .i64 (Lib.compareBytes a.data.toList c.data.toList),.int .i64 (Lib.compareBytes b.data.toList d.data.toList)] 3)).drew:=by
 have HO:Hid (cmpI a b c d=orI (Lib.compareBytes a.data.toList c.data.toList) (Lib.compareBytes b.data.toList d.data.toList)):=rfl
 go_enter Tryz.func166,Tryz.ntmps166
 go_wp2_with fail
 go_region_held3 (fun w'=>w'.cell? ⟨w.heap.size,0,none⟩=some (.string a)∧w'.cell? ⟨w.heap.size,1,none⟩=some (.string b)∧w'.cell? ⟨w.heap.size+1,0,none⟩=some (.string c)∧w'.cell? ⟨w.heap.size+1,1,none⟩=some (.string d)) (go_keep) (first|(go_at_call 251;refine (Tryz.strings_Compare _ _ _).mono ?_;rintro e w' ⟨rfl,rfl⟩)|(go_at_call 250;refine (zor_any (Lib.compareBytes a.data.toList c.data.toList) (Lib.compareBytes b.data.toList d.data.toList) _ _ ?_ ?_).mono ?_;(simp [go_sem]);(simp [go_sem]);rintro e w' ⟨rfl,rfl⟩))
 all_goals
  go_wp2
  go_ret
  exact ⟨ret_int HO.out.symm,rfl⟩
end Z
namespace Z
open Go.RowKit
def eqK (a b c d:ByteArray):Bool:=a.toList==c.toList&&b.toList==d.toList
theorem eql_key (a b c d:ByteArray) (w:World):(binOp .eql 39 (.agg #[.string a,.string b]) (.agg #[.string c,.string d])).run Tryz.prog w=.ok (.bool (eqK a b c d)) w:=by
 have u9:=Tryz.underlying9
 have a9:=Tryz.isAgg9
 have z9:=Tryz.sizeOf9
 have hS:Tryz.prog.underlying 39=some (.struct (Tryz.prog.fieldsOf 39)):=by kernel_rfl
 have hp:Tryz.prog.stoodInHeld 39=false:=by kernel_rfl
 rw [run_eql_struct,show (10000:Nat)=9999+1 from rfl,run_equalIn_agg w 9999 39 _ _ hS hp]
 simp only [Program.fieldsOf,Tryz.underlying39]
 go_simp
 unfold eqK
 by_cases h1:a.toList=c.toList<;>by_cases h2:b.toList=d.toList<;>simp [h1,h2]
theorem neq_key (a b c d:ByteArray) (w:World):(binOp .neq 39 (.agg #[.string a,.string b]) (.agg #[.string c,.string d])).run Tryz.prog w=.ok (.bool (!eqK a b c d)) w:=by
 have u9:=Tryz.underlying9
 have a9:=Tryz.isAgg9
 have z9:=Tryz.sizeOf9
 have hS:Tryz.prog.underlying 39=some (.struct (Tryz.prog.fieldsOf 39)):=by kernel_rfl
 have hp:Tryz.prog.stoodInHeld 39=false:=by kernel_rfl
 rw [run_neq_struct,show (10000:Nat)=9999+1 from rfl,run_equalIn_agg w 9999 39 _ _ hS hp]
 simp only [Program.fieldsOf,Tryz.underlying39]
 go_simp
 unfold eqK
 by_cases h1:a.toList=c.toList<;>by_cases h2:b.toList=d.toList<;>simp [h1,h2]
end Z
namespace Z
open Go.RowKit
theorem zero_cells (e:Value) (n:Nat):(Builtin.zeroCells #[e,e] n).toList=List.replicate (n * 2) e:=by
 apply List.ext_getElem
 ·simp [Builtin.zeroCells]
 ·intro i h1 h2
  simp [Builtin.zeroCells]
  rcases Nat.mod_two_eq_zero_or_one i with h|h<;>simp [h]
theorem run_clear_key (w:World) (ty:TypeId) (b o n c:Nat) (hn:0<n)
  (hc:∀j,j<n * 2→(w.cell? ⟨b,o+j,none⟩).isSome=true) (hf:∀j,j<n * 2→w.frozen? ⟨b,o+j,none⟩=false) :
  (Builtin.clear_ #[50] ty #[.slice (some ⟨b,o,none⟩) n c]).run Tryz.prog w=.ok (.tuple #[]) (w.setCells b o (List.replicate (n * 2) (.string ⟨#[]⟩))):=by
 have hst:=run_storeCells_cells (P:=Tryz.prog) b o (List.replicate (n * 2) (.string ⟨#[]⟩)) 0 w (by simpa using hc) (by simpa using hf) (by intro v hv';rw [List.eq_of_mem_replicate hv'];rfl)
 simp only [Nat.add_zero] at hst
 have hz:=zero_cells (.string ⟨#[]⟩) n
 obtain ⟨m,rfl⟩:∃m,n=m+1:=⟨n-1,by omega⟩
 simp [Builtin.clear_,run_underlying Tryz.underlying50,Tryz.zeroValue39,Value.cells,hz,hst]
theorem below_setCells {B:Nat} {w w':World} (b:Nat) (hb:B≤b):∀(vs:List Value) (o:Nat),Below B w w'→Below B w (w'.setCells b o vs)
 | [],_,h=>h
 | v::vs,o,h=>by
  unfold World.setCells
  exact below_setCells (w':=w'.setCell ⟨b,o,none⟩ v) b hb vs (o+1) (h.setCell hb v)
theorem eqK_self (a b:ByteArray):eqK a b a b=true:=by simp [eqK]
end Z
namespace Z
theorem cb_self (a:List UInt8):Lib.compareBytes a a=0:=by
 induction a with
 | nil=>rfl
 | cons x a ih=>unfold Lib.compareBytes;simp [ih]
theorem cb_zero (a b:List UInt8):Lib.compareBytes a b=0↔a=b:=by
 constructor
 ·induction a generalizing b with
  | nil=>cases b with
   | nil=>intro _;rfl
   | cons y b=>intro h;simp [Lib.compareBytes] at h
  | cons x a ih=>cases b with
   | nil=>intro h;simp [Lib.compareBytes] at h
   | cons y b =>
    intro h
    unfold Lib.compareBytes at h
    split at h
    ·simp at h
    ·split at h
     ·simp at h
     ·rename_i h1 h2
      have:x=y:=by
       apply UInt8.toNat_inj.1
       rw [UInt8.lt_iff_toNat_lt] at h1 h2
       omega
      rw [this,ih b h]
 ·rintro rfl;exact cb_self a
theorem cb_neg (a b:List UInt8):Lib.compareBytes b a=- Lib.compareBytes a b:=by
 induction a generalizing b with
 | nil=>cases b<;>simp [Lib.compareBytes]
 | cons x a ih=>cases b with
  | nil=>simp [Lib.compareBytes]
  | cons y b =>
   unfold Lib.compareBytes
   by_cases h1:x<y
   ·have h2:¬ y<x:=by rw [UInt8.lt_iff_toNat_lt] at h1 ⊢;omega
    simp [h1,h2]
   ·by_cases h2:y<x
    ·simp [h1,h2]
    ·simp [h1,h2,ih b]
theorem cb_range (a b:List UInt8):Lib.compareBytes a b=-1∨Lib.compareBytes a b=0∨Lib.compareBytes a b=1:=by
 induction a generalizing b with
 | nil=>cases b<;>simp [Lib.compareBytes]
 | cons x a ih=>cases b with
  | nil=>simp [Lib.compareBytes]
  | cons y b =>
   unfold Lib.compareBytes
   by_cases h1:x<y
   ·simp [h1]
   ·by_cases h2:y<x
    ·simp [h1,h2]
    ·simpa [h1,h2] using ih b
theorem cb_lt_trans (a b c:List UInt8) (h1:Lib.compareBytes a b<0) (h2:Lib.compareBytes b c<0):Lib.compareBytes a c<0:=by
 induction a generalizing b c with
 | nil=>cases c with
  | nil=>cases b<;>simp [Lib.compareBytes] at h1 h2
  | cons z c=>simp [Lib.compareBytes]
 | cons x a ih=>cases b with
  | nil=>simp [Lib.compareBytes] at h1
  | cons y b=>cases c with
   | nil=>simp [Lib.compareBytes] at h2
   | cons z c =>
    unfold Lib.compareBytes at h1 h2 ⊢
    simp only [UInt8.lt_iff_toNat_lt] at h1 h2 ⊢
    by_cases p1:x.toNat<y.toNat
    ·by_cases q1:y.toNat<z.toNat
     ·rw [if_pos (by omega)];decide
     ·rw [if_neg q1] at h2
      by_cases q2:z.toNat<y.toNat
      ·rw [if_pos q2] at h2;simp at h2
      ·rw [if_pos (by omega)];decide
    ·rw [if_neg p1] at h1
     by_cases p2:y.toNat<x.toNat
     ·rw [if_pos p2] at h1;simp at h1
     ·rw [if_neg p2] at h1
      by_cases q1:y.toNat<z.toNat
      ·rw [if_pos (by omega)];decide
      ·rw [if_neg q1] at h2
       by_cases q2:z.toNat<y.toNat
       ·rw [if_pos q2] at h2;simp at h2
       ·rw [if_neg q2] at h2
        rw [if_neg (by omega),if_neg (by omega)]
        exact ih b c h1 h2
theorem cb_less (a b:List UInt8):decide (Lib.compareBytes a b<0)=Op.bytesLess a b:=by
 induction a generalizing b with
 | nil=>cases b<;>simp [Lib.compareBytes,Op.bytesLess]
 | cons x a ih=>cases b with
  | nil=>simp [Lib.compareBytes,Op.bytesLess]
  | cons y b =>
   unfold Lib.compareBytes Op.bytesLess
   rw [←ih b]
   by_cases h1:x<y
   ·simp [h1]
   ·by_cases h2:y<x
    ·have hne:(x==y)=false:=by
      rw [beq_eq_false_iff_ne];rintro rfl;exact h1 h2
     simp [h1,h2,hne]
    ·have he:x=y:=by
      apply UInt8.toNat_inj.1
      rw [UInt8.lt_iff_toNat_lt] at h1 h2
      omega
     simp [he]
def pairI (x y:Int):Int:=if x=0 then y else x
def cmpL (a b c d:List UInt8):Int:=pairI (Lib.compareBytes a c) (Lib.compareBytes b d)
theorem cmpL_cases (a b c d:List UInt8):(a=c∧cmpL a b c d=Lib.compareBytes b d)∨(a≠c∧Lib.compareBytes a c≠0∧cmpL a b c d=Lib.compareBytes a c):=by
 unfold cmpL pairI
 by_cases h:Lib.compareBytes a c=0
 ·left;exact ⟨(cb_zero a c).1 h,by rw [if_pos h]⟩
 ·right;exact ⟨fun e=>h ((cb_zero a c).2 e),h,by rw [if_neg h]⟩
theorem cmpL_neg (a b c d:List UInt8):cmpL c d a b=- cmpL a b c d:=by
 unfold cmpL pairI
 rw [cb_neg a c,cb_neg b d]
 by_cases h:Lib.compareBytes a c=0
 ·rw [if_pos h,if_pos (by omega)]
 ·rw [if_neg h,if_neg (by omega)]
theorem cmpL_range (a b c d:List UInt8):cmpL a b c d=-1∨cmpL a b c d=0∨cmpL a b c d=1:=by
 rcases cmpL_cases a b c d with ⟨_,h⟩|⟨_,_,h⟩<;>rw [h]<;>exact cb_range _ _
theorem cmpL_zero (a b c d:List UInt8):cmpL a b c d=0↔a=c∧b=d:=by
 rcases cmpL_cases a b c d with ⟨h1,h⟩|⟨h1,h2,h⟩
 ·rw [h,cb_zero];exact ⟨fun e=>⟨h1,e⟩,fun e=>e.2⟩
 ·rw [h];exact ⟨fun e=>absurd e h2,fun e=>absurd e.1 h1⟩
theorem cmpL_lt_trans (a b c d e f:List UInt8) (h1:cmpL a b c d<0) (h2:cmpL c d e f<0):cmpL a b e f<0:=by
 rcases cmpL_cases a b c d with ⟨p1,p⟩|⟨p1,_,p⟩<;>rcases cmpL_cases c d e f with ⟨q1,q⟩|⟨q1,_,q⟩<;>rcases cmpL_cases a b e f with ⟨r1,r⟩|⟨r1,_,r⟩<;>rw [p] at h1<;>rw [q] at h2<;>rw [r]
 ·exact cb_lt_trans _ _ _ h1 h2
 ·exact absurd (p1.trans q1) r1
 ·exact absurd (p1.symm.trans r1) q1
 ·rw [p1];exact h2
 ·exact absurd (r1.trans q1.symm) p1
 ·rw [←q1];exact h1
 ·have:=cb_lt_trans _ _ _ h1 h2;rw [r1,cb_self] at this;omega
 ·exact cb_lt_trans _ _ _ h1 h2
theorem cmpL_le_trans (a b c d e f:List UInt8) (h1:cmpL a b c d≤0) (h2:cmpL c d e f≤0):cmpL a b e f≤0:=by
 by_cases p:cmpL a b c d=0
 ·obtain ⟨rfl,rfl⟩:=(cmpL_zero _ _ _ _).1 p;exact h2
 ·by_cases q:cmpL c d e f=0
  ·obtain ⟨rfl,rfl⟩:=(cmpL_zero _ _ _ _).1 q;exact h1
  ·have:=cmpL_lt_trans a b c d e f (by omega) (by omega);omega
end Z
namespace Z
open Go.RowKit Go.Sort Go.Lib
def encKey (x:ByteArray × ByteArray):List Value:=[.string x.1,.string x.2]
def cmpK (x y:ByteArray × ByteArray):Int:=cmpI x.1 x.2 y.1 y.2
theorem ltK (x y:ByteArray × ByteArray):ltOf cmpK x y=decide (cmpL x.1.data.toList x.2.data.toList y.1.data.toList y.2.data.toList<0):=rfl
theorem swoK:SWO (ltOf cmpK) where
 irrefl x:=by rw [ltK,(cmpL_zero _ _ _ _).2 ⟨rfl,rfl⟩];rfl
 trans x y z h1 h2:=by
  rw [ltK,decide_eq_true_iff] at *
  exact cmpL_lt_trans _ _ _ _ _ _ h1 h2
 ntrans x y z h1 h2:=by
  rw [ltK,decide_eq_false_iff_not] at *
  intro h
  have n1:=cmpL_neg x.1.data.toList x.2.data.toList y.1.data.toList y.2.data.toList
  have n2:=cmpL_neg y.1.data.toList y.2.data.toList z.1.data.toList z.2.data.toList
  have n3:=cmpL_neg x.1.data.toList x.2.data.toList z.1.data.toList z.2.data.toList
  have:=cmpL_le_trans z.1.data.toList z.2.data.toList y.1.data.toList y.2.data.toList x.1.data.toList x.2.data.toList (by omega) (by omega)
  omega
theorem three_new (W:World) (o1 o2 o3:Obj):(((W.alloc o1).alloc o2).alloc o3).drew=grow (W.drewN 1) #[o1,o2,o3]:=by
 rw [alloc_eq_grow,alloc_eq_grow,alloc_eq_grow,grow_grow,grow_grow];rfl
theorem cmpLaysK (blk off size:Nat) (w:World):CmpLays Tryz.prog 166 #[] encKey 2 cmpK blk off size w :=
 fun _ _ _ _ x y=>(compare_eq x.1 x.2 y.1 y.2 _).mono fun _ _ ⟨h1,h2⟩=>⟨h1,1,_,h2.trans (three_new _ _ _ _)⟩
theorem enters23:∀args w,(callFunc 166 args).run Tryz.prog w=.ok (.enter 166 args) w:=enters_of Tryz.func166 (by kernel_rfl) rfl
theorem zsortfunc_any (blk off cap:Nat) (d:Array (ByteArray × ByteArray)) (w:World) (hH:HoldsK encKey 2 w blk off d) (hblk:blk<w.heap.size) (hsz:d.size<4611686018427387904) :
  Calls Tryz.prog 256 #[.slice (some ⟨blk,off,none⟩) d.size cap,.func (.func 166) #[] #[]] w fun e w' =>
   e=.returned (.tuple #[])∧∃d' n os,PermIn 0 d.size d d'∧SortedIn (ltOf cmpK) 0 d.size d'∧w'=sortWorldK encKey 2 w blk off n d' os :=
 AnyQ.slices_SortFunc Tryz.sortKey 2 Tryz.isAgg39 Tryz.sizeOf39 encKey (fun _=>rfl) (fun x v hv=>by simp [encKey] at hv;rcases hv with rfl|rfl<;>rfl) cmpK swoK 166 #[] blk off cap d w enters23 (cmpLaysK blk off d.size w) hH hblk hsz
theorem zclone_any (b off n c:Nat) (news:List Value) (w:World) (hl:news.length=n * 2) (hn:n≤maxLen) (hbig:n * 32≤140737488355328)
  (hc:∀j u,news[j]? = some u→w.cell? ⟨b,off+j,none⟩=some u) (h1:∀u∈news,u.oneCell'=true) :
  Calls Tryz.prog 248 #[.slice (some ⟨b,off,none⟩) n c] w fun e w'=>∃v',e=.returned v'∧w'.ownsRow w.heap.size 39 2 v' n news∧v'≠.slice none 0 0∧Below w.heap.size w w':=by
 have hs:(Tryz.prog.info? 39).isSome=true:=by kernel_rfl
 have hi:∃i0,Tryz.prog.info? 39=some i0∧i0.zero=some (.agg #[.string ⟨#[]⟩,.string ⟨#[]⟩])∧i0.size=2∧i0.bytes=32 :=
  ⟨(Tryz.prog.info? 39).get hs,(Option.some_get hs).symm,by kernel_rfl,by kernel_rfl,by kernel_rfl⟩
 obtain ⟨i0,e1,e2,e3,e4⟩:=hi
 exact AnyE.slices_Clone Tryz.cloneKey i0 _ 2 32 e1 e2 e3 e4 rfl (by omega) Tryz.sizeOf39 b off n c news w hl hn hbig hc h1
def cellsK (d:Array (ByteArray × ByteArray)):List Value:=d.toList.flatMap encKey
theorem below_sortWorld {B:Nat} {w0 w:World} (h:Below B w0 w) (hB:B≤w.heap.size) (blk off n:Nat) (d:Array (ByteArray × ByteArray)) (os:Array Obj) (hb:B≤blk):Below B w0 (sortWorldK encKey 2 w blk off n d os):=by
 refine h.trans ⟨rfl,rfl,rfl,?_,?_⟩
 ·simp [sortWorldK,putRowK]
 ·intro k hk
  have hks:k<w.heap.size:=by omega
  simp only [sortWorldK,grow,putRowK,putRow,mapBlock,Sort.ahead]
  rw [Array.getElem?_append_left (by simpa using hks),Array.getElem?_modify,if_neg (by omega)]
theorem flat_get (l:List (ByteArray × ByteArray)) (t:Nat) (h:t<l.length * 2):(l.flatMap encKey)[t]? = some (encKey (l[t / 2]!))[t % 2]!:=by
 induction l generalizing t with
 | nil=>simp at h
 | cons x l ih =>
  rw [List.flatMap_cons]
  by_cases h2:t<2
  ·rcases (show t=0∨t=1 by omega) with rfl|rfl<;>simp [encKey]
  ·obtain ⟨u,rfl⟩:∃u,t=u+2:=⟨t-2,by omega⟩
   have hl:(encKey x).length=2:=rfl
   rw [List.getElem?_append_right (by omega),hl,show u+2-2=u by omega,ih u (by simp at h;omega),show (u+2) / 2=u / 2+1 by omega,show (u+2) % 2=u % 2 by omega]
   simp
theorem holds_of_heap {w:World} {g:Nat} {cur:Array Value} {e:TypeId} (d:Array (ByteArray × ByteArray)) (hheap:w.heap[g]? = some (.cells cur e (0,0))) (htake:cur.toList.take (d.size * 2)=cellsK d):HoldsK encKey 2 w g 0 d:=by
 intro j hj
 rw [size_flatK] at hj
 have hg:=flat_get d.toList j (by simpa using hj)
 have h1:(cur.toList.take (d.size * 2))[j]? = some (encKey (d.toList[j / 2]!))[j % 2]!:=by rw [htake];exact hg
 rw [List.getElem?_take_of_lt hj] at h1
 rw [get_flatK _ _ _ _ hj]
 constructor
 ·simp only [World.cell?,hheap,Nat.zero_add]
  have he:d.toList[j / 2]! = d[j / 2]!:=by
   rw [getElem!_pos d (j / 2) (by omega),getElem!_pos d.toList (j / 2) (by simp;omega)];simp
  rw [←Array.getElem?_toList,h1,he]
  rfl
 ·simp [World.frozen?,hheap]
end Z
namespace Z
open Go.RowKit
def cellsL (d:List (ByteArray × ByteArray)):List Value:=d.flatMap encKey
theorem cellsL_cons (x:ByteArray × ByteArray) (d:List (ByteArray × ByteArray)):cellsL (x::d)=.string x.1::.string x.2::cellsL d:=rfl
theorem cellsL_length (d:List (ByteArray × ByteArray)):(cellsL d).length=d.length * 2:=by
 induction d with
 | nil=>rfl
 | cons x d ih=>rw [cellsL_cons];simp [ih];omega
theorem cellsL_one (d:List (ByteArray × ByteArray)):∀u∈cellsL d,u.oneCell'=true:=by
 intro u hu
 obtain ⟨x,_,hx⟩:=List.mem_flatMap.1 hu
 simp [encKey] at hx
 rcases hx with rfl|rfl<;>rfl
theorem cellsL_get (d:List (ByteArray × ByteArray)) (i:Nat) (h:i<d.length):(cellsL d)[i * 2]? = some (.string d[i].1)∧(cellsL d)[i * 2+1]? = some (.string d[i].2):=by
 induction d generalizing i with
 | nil=>simp at h
 | cons x d ih =>
  rw [cellsL_cons]
  cases i with
  | zero=>simp
  | succ i =>
   have:=ih i (by simpa using h)
   rw [show (i+1) * 2=i * 2+1+1 by omega]
   simpa using this
theorem cellsL_set (d:List (ByteArray × ByteArray)) (i:Nat) (a b:ByteArray) (h:i<d.length):((cellsL d).set (i * 2) (.string a)).set (i * 2+1) (.string b)=cellsL (d.set i (a,b)):=by
 induction d generalizing i with
 | nil=>simp at h
 | cons x d ih =>
  rw [cellsL_cons]
  cases i with
  | zero=>simp [cellsL_cons]
  | succ i =>
   rw [show (i+1) * 2=i * 2+1+1 by omega]
   simp only [List.set_cons_succ,cellsL_cons]
   rw [ih i (by simpa using h)]
theorem cellsL_take (d:List (ByteArray × ByteArray)) (k:Nat):(cellsL d).take (k * 2)=cellsL (d.take k):=by
 induction d generalizing k with
 | nil=>simp [cellsL]
 | cons x d ih =>
  cases k with
  | zero=>simp [cellsL]
  | succ k=>rw [show (k+1) * 2=k * 2+1+1 by omega,cellsL_cons];simp [ih,cellsL_cons]
def KeysAt (w:World) (b off:Nat) (d:List (ByteArray × ByteArray)):Prop :=
 ∀i,(h:i<d.length)→w.cell? ⟨b,off+i * 2,none⟩=some (.string d[i].1)∧w.cell? ⟨b,off+i * 2+1,none⟩=some (.string d[i].2)
def Own (w:World) (base:Nat) (v:Value) (d:List (ByteArray × ByteArray)):Prop:=w.ownsRow base 39 2 v d.length (cellsL d)
theorem Own.keysAt {w:World} {base g n cap:Nat} {d:List (ByteArray × ByteArray)} (h:Own w base (.slice (some ⟨g,0,none⟩) n cap) d):n=d.length∧KeysAt w g 0 d:=by
 have hn:n=d.length:=by
  rcases h.2 with ⟨h',_⟩|⟨_,_,_,h',_⟩
  ·simp at h'
  ·simp only [Value.slice.injEq] at h';exact h'.2.1
 subst hn
 refine ⟨rfl,fun i hi=>?_⟩
 have e:=cellsL_get d i hi
 rw [Nat.zero_add,World.ownsRow.cellAt h (i * 2) (by omega),World.ownsRow.cellAt h (i * 2+1) (by omega)]
 exact e
end Z
namespace Z
open Go.RowKit
theorem eqK_iff (x y:ByteArray × ByteArray):eqK x.1 x.2 y.1 y.2=decide (x=y):=by
 unfold eqK
 rw [Lib.toList_data,Lib.toList_data,Lib.toList_data,Lib.toList_data,Bool.eq_iff_iff,decide_eq_true_iff]
 obtain ⟨⟨⟨a⟩⟩,⟨⟨b⟩⟩⟩:=x
 obtain ⟨⟨⟨c⟩⟩,⟨⟨d⟩⟩⟩:=y
 simp
end Z
section
theorem at_drop0 {ops:Array Oper} {i:Nat} {oi:Oper} {rest:List Oper} (h:ops.toList.drop i=oi::rest):ops[i]? = some oi:=by
 rw [←Array.getElem?_toList,←List.head?_drop,h];rfl
section
variable {P:Program} {ops:Array Oper} {Q:Exit→Act→World→Prop} {md:Region.Mode} {S:World→Prop}
theorem tkv (i:Nat) {fuel:Nat} {listed:Array Bool} {a:Act} {w:World} (v:Value) {oi:Oper} {rest:List Oper} (hS:S w)
  (h:wpAnyH P md ops Q S fuel (listed.setIfInBounds i true) (a.put oi.dst v) w) (hd:ops.toList.drop i=oi::rest:=by rfl)
  (hs:Region.noSelect ops=true:=by kernel_rfl) (hf:Region.free md ops listed i=true:=by kernel_rfl) (hr:(Region.ready md ops listed).contains i=true:=by kernel_rfl)
  (hQ:∀c a w,Q (.panic c) (a.put oi.dst v) w→Q (.panic c) a w:=by exact fun _ _ _ h=>h) (hw:Region.wanted oi (yielded ops a.tmps)=true:=by rfl)
  (hy:∀w,S w→(execOp a.eval oi).run P w=.ok (.value v) w:=by exact fun w hSw=>by go_simp):wpAnyH P md ops Q S (fuel+1) listed a w :=
 wpAnyH_take (at_drop0 hd) hs hf hr hQ (Or.inl ⟨hw,hy⟩) hS h
theorem take_val {i fuel:Nat} {listed:Array Bool} {a:Act} {w:World} (v:Value) {oi:Oper} {rest:List Oper} (hd:ops.toList.drop i=oi::rest)
  (hs:Region.noSelect ops=true) (hf:Region.free md ops listed i=true) (hr:(Region.ready md ops listed).contains i=true)
  (hQ:∀c a w,Q (.panic c) (a.put oi.dst v) w→Q (.panic c) a w) (hw:Region.wanted oi (yielded ops a.tmps)=true) (hy:∀w,S w→(execOp a.eval oi).run P w=.ok (.value v) w) (hS:S w)
  (h:wpAnyH P md ops Q S fuel (listed.setIfInBounds i true) (a.put oi.dst v) w):wpAnyH P md ops Q S (fuel+1) listed a w :=
 wpAnyH_take (at_drop0 hd) hs hf hr hQ (Or.inl ⟨hw,hy⟩) hS h
end
end
section
open Go.RowKit
structure Fd where
 a:ByteArray
 b:ByteArray
 v:Vx
 deriving Inhabited
abbrev Fnd:=(ByteArray × ByteArray) × Vr
def Fd.fnd (x:Fd):Fnd:=((x.a,x.b),x.v.ver)
def encFd (x:Fd):List Value:=.string x.a::.string x.b::encVx x.v
def KFd:Kind Fd:=⟨110,7,encFd,fun _=>rfl,by decide,fun x u hu=>by simp [encFd,encVx,Vx.sl] at hu;rcases hu with rfl|rfl|rfl|rfl|rfl|rfl|rfl<;>rfl⟩
def CellsF (w:World) (b o:Nat) (x:Fd):Prop:=w.cell? ⟨b,o,none⟩=some (.string x.a)∧w.cell? ⟨b,o+1,none⟩=some (.string x.b)∧CellsV w b (o+2) x.v
theorem kfd_at {w:World} {b off:Nat} {d:List Fd} (h:KFd.At w b off d) (i:Nat) (hi:i<d.length):CellsF w b (off+i * 7) d[i] :=
 ⟨h i hi 0 _ rfl,h i hi 1 _ rfl,h i hi 2 _ rfl,h i hi 3 _ rfl,h i hi 4 _ rfl,h i hi 5 _ rfl,h i hi 6 _ rfl⟩
end
section
open Go.RowKit Go.Lib
def ltB (a b:ByteArray):Bool:=decide (Lib.compareBytes a.data.toList b.data.toList<0)
theorem ba_eq {a b:ByteArray} (h:a.data.toList=b.data.toList):a=b:=by
 obtain ⟨⟨a⟩⟩:=a
 obtain ⟨⟨b⟩⟩:=b
 cases h
 rfl
theorem ltB_anti {a b:ByteArray} (h:ltB a b=false) (k:ltB b a=false):a=b:=by
 unfold ltB at *
 rw [decide_eq_false_iff_not] at *
 refine ba_eq ((cb_zero _ _).1 ?_)
 have:=cb_neg a.data.toList b.data.toList
 omega
theorem ltB_irrefl (a:ByteArray):ltB a a=false:=by
 unfold ltB;rw [cb_self];rfl
theorem ltB_asymm {a b:ByteArray} (h:ltB a b=true):ltB b a=false:=by
 unfold ltB at *
 rw [decide_eq_true_iff] at h
 rw [decide_eq_false_iff_not]
 have:=cb_neg a.data.toList b.data.toList
 omega
theorem ltB_trans {a b c:ByteArray} (h:ltB a b=true) (k:ltB b c=true):ltB a c=true:=by
 unfold ltB at *
 rw [decide_eq_true_iff] at *
 exact cb_lt_trans _ _ _ h k
theorem ltB_cases (a b:ByteArray):ltB a b=true∨a=b∨ltB b a=true:=by
 cases h:ltB a b with
 | true=>exact Or.inl rfl
 | false =>
  cases k:ltB b a with
  | true=>exact Or.inr (Or.inr rfl)
  | false=>exact Or.inr (Or.inl (ltB_anti h k))
theorem sless_of {a b:ByteArray} {c:Bool} (h:ltB a b=c):Op.bytesLess a.toList b.toList=c:=by
 rw [←h]
 unfold ltB
 rw [Lib.toList_data,Lib.toList_data,cb_less]
theorem seq_false {a b:ByteArray} (h:a≠b):(a.toList==b.toList)=false:=by
 rw [Lib.toList_data,Lib.toList_data,beq_eq_false_iff_ne]
 exact fun e=>h (ba_eq e)
theorem seq_true {a b:ByteArray} (h:a=b):(a.toList==b.toList)=true:=by rw [h];simp
theorem sempty_of {a:ByteArray} (h:a.size=0):a.toList.isEmpty=true:=by
 rw [Lib.toList_data]
 have:a.data.toList=[]:=List.length_eq_zero_iff.1 (by simpa using h)
 rw [this];rfl
theorem sfull_of {a:ByteArray} (h:a.size≠0):a.toList.isEmpty=false:=by
 rw [Lib.toList_data]
 cases e:a.data.toList with
 | nil=>exact absurd (by simpa using congrArg List.length e) h
 | cons _ _=>rfl
end
section
open Go.RowKit Go.Lib
abbrev Ky:=ByteArray × ByteArray
structure Tot {α:Type} (lt:α→α→Bool):Prop where
 irr:∀a,lt a a=false
 tr:∀a b c,lt a b=true→lt b c=true→lt a c=true
 tot:∀a b,lt a b=true∨a=b∨lt b a=true
def RisingR {α:Type} (lt:α→α→Bool) (l:List α):Prop:=l.Pairwise fun x y=>lt x y=true
def insR {α:Type} [DecidableEq α] (lt:α→α→Bool) (x:α):List α→List α
 | []=>[x]
 | y::r=>if lt x y then x::y::r else if x=y then y::r else y::insR lt x r
theorem mem_insR {α:Type} [DecidableEq α] (lt:α→α→Bool) (x z:α) (l:List α):z∈insR lt x l↔z=x∨z∈l:=by
 induction l with
 | nil=>simp [insR]
 | cons y r ih =>
  unfold insR
  split
  ·simp
  ·split
   ·next h=>subst h;simp
   ·rw [List.mem_cons,ih,List.mem_cons]
    constructor
    ·rintro (h|h|h)
     ·exact Or.inr (Or.inl h)
     ·exact Or.inl h
     ·exact Or.inr (Or.inr h)
    ·rintro (h|h|h)
     ·exact Or.inr (Or.inl h)
     ·exact Or.inl h
     ·exact Or.inr (Or.inr h)
theorem rising_insR {α:Type} [DecidableEq α] {lt:α→α→Bool} (T:Tot lt) (x:α) {l:List α} (h:RisingR lt l):RisingR lt (insR lt x l):=by
 induction l with
 | nil=>exact List.pairwise_cons.2 ⟨fun _ h=>by simp at h,List.Pairwise.nil⟩
 | cons y r ih =>
  obtain ⟨h1,h2⟩:=List.pairwise_cons.1 h
  unfold insR
  split
  ·next hx =>
   refine List.pairwise_cons.2 ⟨fun z hz=>?_,h⟩
   rcases List.mem_cons.1 hz with rfl|hz
   ·exact hx
   ·exact T.tr _ _ _ hx (h1 z hz)
  ·next hx =>
   split
   ·exact h
   ·next hne =>
    refine List.pairwise_cons.2 ⟨fun z hz=>?_,ih h2⟩
    rcases (mem_insR lt x z r).1 hz with rfl|hz
    ·rcases T.tot y z with h|h|h
     ·exact h
     ·exact absurd h.symm hne
     ·exact absurd h hx
    ·exact h1 z hz
theorem rising_uniqR {α:Type} {lt:α→α→Bool} (T:Tot lt):∀{r s:List α},RisingR lt r→RisingR lt s→(∀x,x∈r↔x∈s)→r=s
 | [],[],_,_,_=>rfl
 | [],y::s,_,_,h=>by have:=(h y).2 (by simp);simp at this
 | x::r,[],_,_,h=>by have:=(h x).1 (by simp);simp at this
 | x::r,y::s,hr,hs,h=>by
  obtain ⟨r1,r2⟩:=List.pairwise_cons.1 hr
  obtain ⟨s1,s2⟩:=List.pairwise_cons.1 hs
  have hxy:x=y:=by
   rcases List.mem_cons.1 ((h x).1 (by simp)) with e|hx
   ·exact e
   ·rcases List.mem_cons.1 ((h y).2 (by simp)) with e|hy
    ·exact e.symm
    ·have h1:=T.tr _ _ _ (r1 y hy) (s1 x hx)
     rw [T.irr] at h1
     cases h1
  subst hxy
  rw [rising_uniqR T r2 s2 fun z=>?_]
  constructor
  ·intro hz
   rcases List.mem_cons.1 ((h z).1 (List.mem_cons_of_mem _ hz)) with e|hz'
   ·subst e;have:=r1 z hz;rw [T.irr] at this;cases this
   ·exact hz'
  ·intro hz
   rcases List.mem_cons.1 ((h z).2 (List.mem_cons_of_mem _ hz)) with e|hz'
   ·subst e;have:=s1 z hz;rw [T.irr] at this;cases this
   ·exact hz'
theorem insR_there {α:Type} [DecidableEq α] {lt:α→α→Bool} (T:Tot lt) {x:α} {l:List α} (h:RisingR lt l) (hx:x∈l):insR lt x l=l :=
 rising_uniqR T (rising_insR T x h) h fun z=>by
  rw [mem_insR]
  exact ⟨fun hz=>by rcases hz with rfl|hz<;>assumption,Or.inr⟩
def ltKy (a b:Ky):Bool:=ltB a.1 b.1||(decide (a.1=b.1)&&ltB a.2 b.2)
theorem ltKy_true {a b:Ky}:ltKy a b=true↔ltB a.1 b.1=true∨a.1=b.1∧ltB a.2 b.2=true:=by simp [ltKy]
theorem totK:Tot ltKy where
 irr a:=by
  cases h:ltKy a a with
  | false=>rfl
  | true =>
   rcases ltKy_true.1 h with h|⟨_,h⟩
   ·rw [ltB_irrefl] at h;cases h
   ·rw [ltB_irrefl] at h;cases h
 tr a b c h k:=by
  rw [ltKy_true] at *
  rcases h with h|⟨h,h'⟩<;>rcases k with k|⟨k,k'⟩
  ·exact Or.inl (ltB_trans h k)
  ·exact Or.inl (by rw [←k];exact h)
  ·exact Or.inl (by rw [h];exact k)
  ·exact Or.inr ⟨h.trans k,ltB_trans h' k'⟩
 tot a b:=by
  rw [ltKy_true,ltKy_true]
  rcases ltB_cases a.1 b.1 with h|h|h
  ·exact Or.inl (Or.inl h)
  ·rcases ltB_cases a.2 b.2 with k|k|k
   ·exact Or.inl (Or.inr ⟨h,k⟩)
   ·exact Or.inr (Or.inl (Prod.ext h k))
   ·exact Or.inr (Or.inr (Or.inr ⟨h.symm,k⟩))
  ·exact Or.inr (Or.inr (Or.inl h))
end
section
open Go.RowKit
def FitKy (k:Ky):Prop:=k.1.size≤maxLen∧k.2.size≤maxLen
structure FoundIn (W:World) (v:Value) (fo:List Fd):Prop where
 is:KFd.Is W v fo
 each:∀f∈fo,f.v.at W∧FitX f.v.o∧CopyX f.v.o
 kfit:∀f∈fo,FitKy (f.a,f.b)
theorem FoundIn.on {W W':World} {v:Value} {fo:List Fd} (h:FoundIn W v fo) (hb:Below W.heap.size W W'):FoundIn W' v fo :=
 ⟨Kind.is_kept h.is hb,fun f hf=>⟨IsXs.kept (h.each f hf).1 hb,(h.each f hf).2⟩,h.kfit⟩
end
section
open Go.RowKit
abbrev Tm:=ByteArray × Int × ByteArray
def encM (x:Tm):List Value:=[.string x.1,.int .i64 x.2.1,.string x.2.2]
def KM:Kind Tm:=⟨122,3,encM,fun _=>rfl,by decide,fun x u hu=>by simp [encM] at hu;rcases hu with rfl|rfl|rfl<;>rfl⟩
def FitM (p:List Tm):Prop:=p.length≤maxLen∧∀x∈p,x.1.size≤maxLen∧x.2.2.size≤maxLen∧-9223372036854775808≤x.2.1∧x.2.1≤9223372036854775807
def rightM (x:Tm):Bool:=decide (1≤x.2.1)&&decide (x.2.1≤7)&&(decide (x.2.1<6)||decide (x.2.2.size=0))
def namedM (x:Tm):Bool:=fieldB x.1.data.toList
def shortM (x:Tm):Bool:=decide (x.2.2.size≤128)
def mayM (p:List Tm):Int:=if 8<p.length then 5 else if p.all namedM=false then 2 else if p.all rightM=false then 1 else if p.all shortM=false then 5 else 0
def ltM (a b:Tm):Bool:=if a.1≠b.1 then ltB a.1 b.1 else if a.2.1≠b.2.1 then decide (a.2.1<b.2.1) else ltB a.2.2 b.2.2
theorem ltM_irrefl (a:Tm):ltM a a=false:=by simp [ltM,ltB_irrefl]
theorem ltB_eq_false {a b:ByteArray} (h:ltB a b=true):a≠b:=by
 rintro rfl
 rw [ltB_irrefl] at h
 cases h
theorem ltM_cases (a b:Tm):ltM a b=true∨a=b∨ltM b a=true:=by
 obtain ⟨a1,a2,a3⟩:=a
 obtain ⟨b1,b2,b3⟩:=b
 unfold ltM
 simp only
 by_cases h1:a1=b1
 ·subst h1
  by_cases h2:a2=b2
  ·subst h2
   rcases ltB_cases a3 b3 with h|h|h
   ·left;simpa using h
   ·right;left;rw [h]
   ·right;right;simpa using h
  ·have h2':b2≠a2:=fun e=>h2 e.symm
   rcases Int.lt_or_gt_of_ne h2 with h|h
   ·left;simp [h2,h]
   ·right;right;simp [h2',h]
 ·have h1':b1≠a1:=fun e=>h1 e.symm
  rcases ltB_cases a1 b1 with h|h|h
  ·left;simp [h1,h]
  ·exact absurd h h1
  ·right;right;simp [h1',h]
theorem ltM_trans {a b c:Tm} (h:ltM a b=true) (k:ltM b c=true):ltM a c=true:=by
 obtain ⟨a1,a2,a3⟩:=a
 obtain ⟨b1,b2,b3⟩:=b
 obtain ⟨c1,c2,c3⟩:=c
 unfold ltM at *
 simp only at *
 by_cases h1:a1=b1
 ·subst h1
  by_cases k1:a1=c1
  ·subst k1
   simp only [ne_eq,not_true_eq_false,if_false] at *
   by_cases h2:a2=b2
   ·subst h2
    by_cases k2:a2=c2
    ·subst k2
     simp only [not_true_eq_false,if_false] at *
     exact ltB_trans h k
    ·simp only [not_true_eq_false,if_false,k2,not_false_eq_true,if_true] at *
     exact k
   ·by_cases k2:b2=c2
    ·subst k2
     simp only [h2,not_false_eq_true,if_true] at *
     exact h
    ·simp only [h2,k2,not_false_eq_true,if_true,decide_eq_true_eq] at h k
     have h3:a2≠c2:=by omega
     simp only [h3,not_false_eq_true,if_true,decide_eq_true_eq]
     omega
  ·simp only [ne_eq,k1,not_false_eq_true,if_true] at *
   exact k
 ·by_cases k1:b1=c1
  ·subst k1
   simp only [ne_eq,h1,not_false_eq_true,if_true] at *
   exact h
  ·simp only [ne_eq,h1,k1,not_false_eq_true,if_true] at h k
   have h3:ltB a1 c1=true:=ltB_trans h k
   have h4:a1≠c1:=ltB_eq_false h3
   simp only [ne_eq,h4,not_false_eq_true,if_true]
   exact h3
theorem ltM_asymm {a b:Tm} (h:ltM a b=true):ltM b a=false:=by
 cases k:ltM b a with
 | false=>rfl
 | true =>
  have:=ltM_trans h k
  rw [ltM_irrefl] at this
  cases this
theorem ltM_ne {a b:Tm} (h:ltM a b=true):a≠b:=by
 rintro rfl
 rw [ltM_irrefl] at h
 cases h
def RisingM (l:List Tm):Prop:=l.Pairwise fun x y=>ltM x y=true
theorem rising_unique:∀(a b:List Tm),RisingM a→RisingM b→(∀x,x∈a↔x∈b)→a=b
 | [],[],_,_,_=>rfl
 | [],y::b,_,_,h=>by have:=(h y).2 (by simp);simp at this
 | x::a,[],_,_,h=>by have:=(h x).1 (by simp);simp at this
 | x::a,y::b,ha,hb,h=>by
  have ha':=List.pairwise_cons.1 ha
  have hb':=List.pairwise_cons.1 hb
  have hxy:x=y:=by
   rcases List.mem_cons.1 ((h x).1 (by simp)) with e|e
   ·exact e
   ·rcases List.mem_cons.1 ((h y).2 (by simp)) with e2|e2
    ·exact e2.symm
    ·have h1:=hb'.1 x e
     have h2:=ha'.1 y e2
     rw [ltM_asymm h1] at h2
     cases h2
  subst hxy
  congr 1
  refine rising_unique a b ha'.2 hb'.2 fun z=>⟨fun hz=>?_,fun hz=>?_⟩
  ·rcases List.mem_cons.1 ((h z).1 (by simp [hz])) with e|e
   ·exact absurd e.symm (ltM_ne (ha'.1 z hz))
   ·exact e
  ·rcases List.mem_cons.1 ((h z).2 (by simp [hz])) with e|e
   ·exact absurd e.symm (ltM_ne (hb'.1 z hz))
   ·exact e
def insM (x:Tm):List Tm→List Tm
 | []=>[x]
 | y::l=>if ltM x y then x::y::l else if x=y then y::l else y::insM x l
def sortM (p:List Tm):List Tm:=p.foldl (fun acc x=>insM x acc) []
theorem mem_insM (x z:Tm) (l:List Tm):z∈insM x l↔z=x∨z∈l:=by
 induction l with
 | nil=>simp [insM]
 | cons y l ih =>
  unfold insM
  split
  ·simp
  ·split
   ·rename_i h;subst h;simp
   ·simp [ih,or_left_comm]
theorem insM_rising (x:Tm) (l:List Tm) (h:RisingM l):RisingM (insM x l):=by
 induction l with
 | nil=>exact List.pairwise_singleton _ _
 | cons y l ih =>
  have h':=List.pairwise_cons.1 h
  unfold insM
  split
  ·rename_i hlt
   refine List.pairwise_cons.2 ⟨fun z hz=>?_,h⟩
   rcases List.mem_cons.1 hz with rfl|hz
   ·exact hlt
   ·exact ltM_trans hlt (h'.1 z hz)
  ·rename_i hlt
   split
   ·exact h
   ·rename_i hne
    refine List.pairwise_cons.2 ⟨fun z hz=>?_,ih h'.2⟩
    rcases (mem_insM x z l).1 hz with rfl|hz
    ·rcases ltM_cases z y with h1|h1|h1
     ·exact absurd h1 hlt
     ·exact absurd h1 hne
     ·exact h1
    ·exact h'.1 z hz
theorem sortM_spec (p:List Tm):RisingM (sortM p)∧∀x,x∈sortM p↔x∈p:=by
 have:∀(l acc:List Tm),RisingM acc→RisingM (l.foldl (fun acc x=>insM x acc) acc)∧∀x,x∈l.foldl (fun acc x=>insM x acc) acc↔x∈acc∨x∈l:=by
  intro l
  induction l with
  | nil=>intro acc h;exact ⟨h,fun x=>by simp⟩
  | cons y l ih =>
   intro acc h
   obtain ⟨h1,h2⟩:=ih (insM y acc) (insM_rising y acc h)
   refine ⟨h1,fun x=>?_⟩
   rw [List.foldl_cons,h2,mem_insM,List.mem_cons]
   constructor
   ·rintro ((h|h)|h)
    ·exact Or.inr (Or.inl h)
    ·exact Or.inl h
    ·exact Or.inr (Or.inr h)
   ·rintro (h|h|h)
    ·exact Or.inl (Or.inr h)
    ·exact Or.inl (Or.inl h)
    ·exact Or.inr h
 obtain ⟨h1,h2⟩:=this p [] List.Pairwise.nil
 exact ⟨h1,fun x=>by rw [sortM,h2];simp⟩
theorem sortM_unique {p l:List Tm} (h1:RisingM l) (h2:∀x,x∈l↔x∈p):l=sortM p :=
 rising_unique _ _ h1 (sortM_spec p).1 fun x=>(h2 x).trans ((sortM_spec p).2 x).symm
theorem sortM_len (p:List Tm):(sortM p).length≤p.length:=by
 have key:∀(x:Tm) (l:List Tm),(insM x l).length≤l.length+1:=by
  intro x l
  induction l with
  | nil=>simp [insM]
  | cons y l ih =>
   unfold insM
   split
   ·simp
   ·split
    ·simp
    ·simp;omega
 have:∀(l acc:List Tm),(l.foldl (fun acc x=>insM x acc) acc).length≤acc.length+l.length:=by
  intro l
  induction l with
  | nil=>intro acc;simp
  | cons y l ih =>
   intro acc
   have h1:=ih (insM y acc)
   have h2:=key y acc
   rw [List.foldl_cons,List.length_cons]
   omega
 simpa [sortM] using this p []
def ansM (p:List Tm):List Tm:=if mayM p=0 then sortM p else []
theorem mayM_zero {p:List Tm} (h:mayM p=0):p.length≤8∧p.all namedM=true∧p.all rightM=true∧p.all shortM=true:=by
 unfold mayM at h
 split at h
 ·omega
 ·rename_i h1
  split at h
  ·omega
  ·rename_i h2
   split at h
   ·omega
   ·rename_i h3
    split at h
    ·omega
    ·rename_i h4
     exact ⟨by omega,by simpa using h2,by simpa using h3,by simpa using h4⟩
end
section
open Go.ChangeShapes Go.WideShapes Go.ChangeAt Go.RowKit Go.Lib Go.Deep Go.Joins
theorem Tryz.cellsWStr:Tryz.prog.cellsOf 9=1:=by kernel_rfl
theorem Tryz.cellsWBool:Tryz.prog.cellsOf 4=1:=by kernel_rfl
theorem Tryz.cellsWKey:Tryz.prog.cellsOf 39=2:=by kernel_rfl
section
variable {H:Type} {enc:TypeId × Value→H} {W:World}
set_option maxRecDepth 100000 in
theorem open_kyW {n:Nat} {cs:List Value} {x:DataW H × List MemPlace} (h:DataW.trod enc Tryz.prog W 0 (fun _=>true) true n 39 cs=some x) :
  ∃k:Ky,cs=[.string k.1,.string k.2]∧FitKy k:=by
 obtain ⟨xs,k,_,_,hlen,hxl,hf⟩:=DataW.trod_struct Tryz.underlying39 h
 rw [Tryz.cellsWKey] at hlen
 match cs,hlen with
 | [v0,v1],_ =>
  match xs,hxl with
  | [y0,y1],_ =>
   have g0:=hf 0 _ rfl
   have g1:=hf 1 _ rfl
   simp [Tryz.cellsWStr] at g0 g1
   obtain ⟨a,ea,_,ha⟩:=DataW.trod_string Tryz.underlying9 g0
   obtain ⟨b,eb,_,hb⟩:=DataW.trod_string Tryz.underlying9 g1
   simp only [List.cons.injEq,and_true] at ea eb
   exact ⟨(a,b),by rw [ea,eb],ha,hb⟩
set_option maxRecDepth 100000 in
theorem open_keyW {b0:Nat} {v:Value} {d:DataW H} {p:List MemPlace}
  (hv:Value.okWide Tryz.prog W .any b0 39 v) (h:DataW.Trod enc Tryz.prog W 0 (fun _=>true) true 39 v d p):∃k:Ky,v=.agg #[.string k.1,.string k.2]∧FitKy k:=by
 obtain ⟨cs,rfl,hsz⟩:=okWide_struct Tryz.underlying39 hv
 obtain ⟨fuel,hf⟩:=h
 obtain ⟨k,hk,hfit⟩:=open_kyW (x:=(d,p)) hf
 exact ⟨k,by
  have:cs.toList=[.string k.1,.string k.2]:=by simpa [Value.cells] using hk
  rw [show cs=#[.string k.1,.string k.2] from Array.ext' (by rw [this])],hfit⟩
end
end
section
open Go.RowKit
theorem km_cells {w:World} {b off:Nat} {p:List Tm} (h:KM.At w b off p) (i:Nat) (hi:i<p.length) :
  w.cell? ⟨b,off+i * 3,none⟩=some (.string (p[i]).1)∧w.cell? ⟨b,off+i * 3+1,none⟩=some (.int .i64 (p[i]).2.1)∧w.cell? ⟨b,off+i * 3+2,none⟩=some (.string (p[i]).2.2) :=
 ⟨h i hi 0 _ rfl,h i hi 1 _ rfl,h i hi 2 _ rfl⟩
end
section
open Go.RowKit
theorem Tryz.infoTrm:(Tryz.prog.info? 122).map (fun i=>(i.zero,i.size,i.bytes))=some (some (.agg #[.string ⟨#[]⟩,.int .i64 0,.string ⟨#[]⟩]),3,40):=by kernel_rfl
theorem neq_term (a b:Tm) (w:World):(binOp .neq 122 (.agg #[.string a.1,.int .i64 a.2.1,.string a.2.2]) (.agg #[.string b.1,.int .i64 b.2.1,.string b.2.2])).run Tryz.prog w=.ok (.bool (!decide (a=b))) w:=by
 obtain ⟨a1,a2,a3⟩:=a
 obtain ⟨b1,b2,b3⟩:=b
 have hS:Tryz.prog.underlying 122=some (.struct (Tryz.prog.fieldsOf 122)):=by kernel_rfl
 have hp:Tryz.prog.stoodInHeld 122=false:=by kernel_rfl
 have u9:=Tryz.underlying9
 have a9:=Tryz.isAgg9
 have z9:=Tryz.sizeOf9
 have u3:=Tryz.underlying3
 have a3':=Tryz.isAgg3
 have z3:=Tryz.sizeOf3
 rw [run_neq_struct,show (10000:Nat)=9999+1 from rfl,run_equalIn_agg w 9999 122 _ _ hS hp]
 simp only [Program.fieldsOf,Tryz.underlying122]
 go_simp
 by_cases h1:a1=b1
 ·subst h1
  by_cases h2:a2=b2
  ·subst h2
   by_cases h3:a3=b3
   ·subst h3;simp
   ·have e3:=beq_eq_false_iff_ne.1 (seq_false h3)
    simp [h3,e3]
  ·simp [h2]
 ·have e1:=beq_eq_false_iff_ne.1 (seq_false h1)
  simp [h1,e1]
end
section
open Go.RowKit
def NMPost (w:World) (p:List Tm) (e:Ending) (w':World):Prop :=
 (∃u,e=.returned (.tuple #[u,.int .i64 (mayM p)])∧KM.Own w.heap.size w' u (ansM p))∧Below w.heap.size w w'
end
section
open Go.RowKit Go.Sort Go.Lib
theorem Kind.cells_set {α:Type} (K:Kind α) (d:List α) (i:Nat) (h:i<d.length) (x:α) (j:Nat):(K.cells (d.set i x))[j]? = if i * K.k≤j∧j<i * K.k+K.k then (K.enc x)[j-i * K.k]? else (K.cells d)[j]?:=by
 by_cases hj:j<d.length * K.k
 ·have hkp:=K.pos
  have hq:j / K.k<d.length:=(Nat.div_lt_iff_lt_mul hkp).2 hj
  have hm:j % K.k<K.k:=Nat.mod_lt _ hkp
  have e:j / K.k * K.k+j % K.k=j:=by rw [Nat.mul_comm];exact Nat.div_add_mod j K.k
  have h1:=K.cells_get (d.set i x) (j / K.k) (by simpa using hq) (j % K.k) hm
  have h2:=K.cells_get d (j / K.k) hq (j % K.k) hm
  rw [e] at h1 h2
  rw [h1,h2,List.getElem_set]
  by_cases hi:i=j / K.k
  ·rw [if_pos hi,if_pos (by rw [hi];omega),hi]
   congr 1
   omega
  ·rw [if_neg hi,if_neg]
   intro hh
   exact hi ((blk_iff K.k i j hkp).1 hh).symm
 ·have h3:(i+1) * K.k≤d.length * K.k:=Nat.mul_le_mul_right _ h
  rw [Nat.add_mul,Nat.one_mul] at h3
  rw [if_neg (by omega),List.getElem?_eq_none (by rw [K.cells_len,List.length_set];omega),List.getElem?_eq_none (by rw [K.cells_len];omega)]
theorem Kind.own_form {α:Type} {K:Kind α} {n0 n c:Nat} {w:World} {q:Option Addr} {d:List α} (h:K.Own n0 w (.slice q n c) d) (h0:0<d.length):∃g,q=some ⟨g,0,none⟩∧n0≤g∧d.length=n∧K.At w g 0 d∧∀j,w.frozen? ⟨g,j,none⟩=false:=by
 rcases h.2 with ⟨_,h1⟩|⟨g,cap,cur,hv,hb,hg,_⟩
 ·omega
 ·injection hv with h1 h2 h3
  subst h1
  obtain ⟨p,c',he,hd⟩:=Kind.own_is h
  injection he with e1 e2 e3
  rcases hd with hd|⟨b,off,hp,hat⟩
  ·rw [hd] at h0;simp at h0
  ·rw [←e1] at hp
   injection hp with hp
   injection hp with hp1 hp2
   subst hp1 hp2
   exact ⟨g,rfl,hb,h2.symm,hat,fun j=>Lib.frozen_of_heap hg _⟩
end
end Go.Proofs.YtmhlcnmfbolgdaaGreat
