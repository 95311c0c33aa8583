/-
  Texts of this claim, one behind the other: Cr3 Cfx Cs2 Cyt Lr0 Lr1 Lr2 Lr3 Lr4 Lr5 Lr6 Ls1 Ls2 Dfx Dfw Dsm Ls3 Lt1 Lt2 Lt3 Kcl Lp1 Lp2 Lp3 Vpu Vpv Vpw Vpx Vm3 Vs0 Vs1 Vm4 Vs2 Vs3 Vnm Wsm Ws8 Ws9 Su0 Su1 Su2 Su3 Su4 Wsa Vn1 Vn2 Lp4 Vpz Vn0 Vpy Vn3 Vnj Vnk Vf3.
-/
import Derived.Test.YtmhlcnmfbolgdaaGreatPi
import Derived.JoinedOf
namespace Go.Proofs.YtmhlcnmfbolgdaaGreat
section
open Go.RowKit
theorem two_boxes14 (w:World) (c1 c2:Array Value) (t1 t2:TypeId):Below w.heap.size w ((w.alloc (.cells c1 t1)).alloc (.cells c2 t2))∧((w.alloc (.cells c1 t1)).alloc (.cells c2 t2)).heap[w.heap.size]? = some (.cells c1 t1 (0,0))∧((w.alloc (.cells c1 t1)).alloc (.cells c2 t2)).heap[w.heap.size+1]? = some (.cells c2 t2 (0,0))∧((w.alloc (.cells c1 t1)).alloc (.cells c2 t2)).heap.size=w.heap.size+2:=by
 have hb1:Below w.heap.size w (w.alloc (.cells c1 t1)):=(Below.refl _ _).alloc (Nat.le_refl _) _
 have hs1:(w.alloc (.cells c1 t1)).heap.size=w.heap.size+1:=by simp
 have hb2:Below (w.alloc (.cells c1 t1)).heap.size (w.alloc (.cells c1 t1)) ((w.alloc (.cells c1 t1)).alloc (.cells c2 t2)):=(Below.refl _ _).alloc (Nat.le_refl _) _
 have h1:(w.alloc (.cells c1 t1)).heap[w.heap.size]? = some (.cells c1 t1 (0,0)):=heap_alloc_new w _
 have h2:((w.alloc (.cells c1 t1)).alloc (.cells c2 t2)).heap[(w.alloc (.cells c1 t1)).heap.size]? = some (.cells c2 t2 (0,0)):=heap_alloc_new _ _
 rw [hs1] at h2
 exact ⟨bel_then hb1 hb1.size hb2,(hb2.block _ (by omega)).trans h1,h2,by simp⟩
end
section
open Go.RowKit Go.Lib
def NwF (W:World) (r:List Fnd × Int) (e:Ending) (w':World):Prop :=
 ∃u fs,e=.returned (.tuple #[u,.int .i64 r.2])∧KFd.Own W.heap.size w' u fs∧(∀f∈fs,OwnJ W.heap.size w' f.v.sl f.v.o∧mayB (f.v.o.map Fx.fld)=true)∧fs.map Fd.fnd=r.1∧Below W.heap.size W w'
end
section
open Go.RowKit
def StepB (n0 nr:Nat) (W:World) (h:Nat) (gs:List Nat) (c:Nat→Nat) (S':Sv) (A:Nat) (w1 w':World):Prop :=
 ∃c',StoP n0 nr w' h gs S' c'∧Fr (fun k=>c k≠0) W w'∧(∀k,k<W.heap.size→c' k=c k)∧W.heap.size≤A∧w1.heap.size≤w'.heap.size∧∀k,A≤k→k<w1.heap.size→c' k=0∧w'.heap[k]? = w1.heap[k]?
section
variable {n0 nr:Nat} {W w w1:World} {s s':Ps} {c c':Nat→Nat}
theorem Mid.stepB (m:Mid n0 nr W s c s' c' w) {S':Sv} (e:s'.sv=S') {A:Nat} (hA:W.heap.size≤A) (hs:w1.heap.size≤w.heap.size) (h0:∀k,A≤k→k<w1.heap.size→c' k=0∧w.heap[k]? = w1.heap[k]?):StepB n0 nr W s.h (s.xs.map Px.g) c S' A w1 w:=by
 rw [←e]
 exact ⟨c',m.sto,m.fr,m.lab,hA,hs,h0⟩
end
end
section
open Go.RowKit
def XsF (n0 nr:Nat) (W:World) (h:Nat) (gs:List Nat) (c:Nat→Nat) (r:List Fnd × Int) (S':Sv) (e:Ending) (w':World):Prop:=∃w0 w1,NwF w0 r e w1∧StepB n0 nr W h gs c S' w0.heap.size w1 w'
theorem nwf_none (W:World) (cd:Int):NwF W ([],cd) (.returned (.tuple #[.slice none 0 0,.int .i64 cd])) W:=⟨_,[],rfl,Kind.own_nil _ _ _,(fun _ h=>by cases h),rfl,Below.refl _ _⟩
end
section
theorem hereS_mem {D:List RowD} {x:Tx} {P:List Fld→Bool} {k:Ky} {f:Fnd} (h:hereS D x P k=some f):f.1=k∧isS D x k=some f.2∧f.2.live=true∧P f.2.val=true:=by
 unfold hereS at h
 split at h
 ·next v hv =>
  split at h
  ·next hc =>
   rw [Bool.and_eq_true] at hc
   injection h with h
   subst h
   exact ⟨rfl,hv,hc.1,hc.2⟩
  ·cases h
 ·cases h
theorem keysS_mem {D:List RowD} {x:Tx} {typ:ByteArray} {k:Ky}:k∈keysS D x typ↔(k∈keysD D typ∨(k∈keysW x.wr∧k.1=typ)):=by
 have hgo:∀(l acc:List Ky),k∈l.foldl (fun acc k=>insR ltKy k acc) acc↔k∈acc∨k∈l:=by
  intro l
  induction l with
  | nil=>intro acc;simp
  | cons z l ih =>
   intro acc
   rw [List.foldl_cons,ih,mem_insR,List.mem_cons]
   constructor
   ·rintro ((h|h)|h)
    ·exact Or.inr (Or.inl h)
    ·exact Or.inl h
    ·exact Or.inr (Or.inr h)
   ·rintro (h|h|h)
    ·exact Or.inl (Or.inr h)
    ·exact Or.inl (Or.inl h)
    ·exact Or.inr h
 unfold keysS
 rw [hgo,List.mem_filter]
 simp
theorem keysS_rise {D:List RowD} (h:OkD D) (x:Tx) (typ:ByteArray):RisingR ltKy (keysS D x typ):=by
 have hgo:∀(l acc:List Ky),RisingR ltKy acc→RisingR ltKy (l.foldl (fun acc k=>insR ltKy k acc) acc):=by
  intro l
  induction l with
  | nil=>intro acc ha;exact ha
  | cons z l ih =>
   intro acc ha
   exact ih _ (rising_insR totK z ha)
 exact hgo _ _ (h.rise.sublist List.filter_sublist)
theorem scanS_mem {D:List RowD} (h:OkD D) {x:Tx} {typ:ByteArray} {P:List Fld→Bool} {f:Fnd}:f∈scanS D x typ P↔f.1.1=typ∧isS D x f.1=some f.2∧f.2.live=true∧P f.2.val=true:=by
 unfold scanS
 rw [List.mem_filterMap]
 constructor
 ·rintro ⟨k,hk,hf⟩
  obtain ⟨rfl,h1,h2,h3⟩:=hereS_mem hf
  refine ⟨?_,h1,h2,h3⟩
  rcases keysS_mem.1 hk with q|q
  ·exact of_decide_eq_true (List.mem_filter.1 q).2
  ·exact q.2
 ·rintro ⟨h1,h2,h3,h4⟩
  refine ⟨f.1,keysS_mem.2 ?_,?_⟩
  ·unfold isS at h2
   split at h2
   ·refine Or.inl (List.mem_filter.2 ⟨(there_iff h f.1).2 fun e=>?_,by simpa using h1⟩)
    unfold oldS at h2
    rw [e] at h2
    cases h2
   ·next e he=>exact Or.inr ⟨List.mem_map.2 ⟨_,getW_mem he,rfl⟩,h1⟩
  ·unfold hereS
   rw [h2]
   simp [h3,h4]
theorem scanS_keys {D:List RowD} {x:Tx} {P:List Fld→Bool}:∀ks:List Ky,((ks.filterMap (hereS D x P)).map Prod.fst).Sublist ks
 | []=>List.Sublist.refl _
 | k::ks=>by
  have ih:=scanS_keys (D:=D) (x:=x) (P:=P) ks
  rw [List.filterMap_cons]
  split
  ·exact ih.cons k
  ·next f hf =>
   rw [List.map_cons,(hereS_mem hf).1]
   exact ih.cons_cons k
theorem scanS_rise {D:List RowD} (h:OkD D) (x:Tx) (typ:ByteArray) (P:List Fld→Bool):RisingR ltKy ((scanS D x typ P).map Prod.fst):=(keysS_rise h x typ).sublist (scanS_keys _)
theorem finds_uniq {L M:List Fnd} (hL:RisingR ltKy (L.map Prod.fst)) (hM:RisingR ltKy (M.map Prod.fst)) (h:∀f,f∈L↔f∈M) (g:Ky→Option Vr) (hg:∀f∈L,g f.1=some f.2):L=M:=by
 have hk:L.map Prod.fst=M.map Prod.fst:=rising_uniqR totK hL hM fun k=>by
  rw [List.mem_map,List.mem_map]
  constructor
  ·rintro ⟨f,hf,e⟩;exact ⟨f,(h f).1 hf,e⟩
  ·rintro ⟨f,hf,e⟩;exact ⟨f,(h f).2 hf,e⟩
 rw [pairs_of hg,pairs_of (L:=M) (f:=g) fun f hf=>hg f ((h f).2 hf),hk]
end
section
theorem match_sort (p:List Tm) (v:List Fld):matchM (sortM p) v=matchM p v:=by
 unfold matchM
 rw [Bool.eq_iff_iff,List.all_eq_true,List.all_eq_true]
 exact ⟨fun h x hx=>h x (((sortM_spec p).2 x).2 hx),fun h x hx=>h x (((sortM_spec p).2 x).1 hx)⟩
end
section
theorem scan_over {D:List RowD} (hD:OkD D) {x:Tx} (hw:OkW x.wr) (typ:ByteArray) (P:List Fld→Bool) :
  (overW x.wr (scanD D typ x.snap P) typ P).map (fun f=>(f.1,(isS D x f.1).getD zeroV))=scanS D x typ P:=by
 have hmem:∀f,f∈overW x.wr (scanD D typ x.snap P) typ P↔(f∈scanD D typ x.snap P∧getW x.wr f.1=none)∨f∈hitsW x.wr typ P:=fun f=>by
  unfold overW freeW
  rw [sortP_mem,List.mem_append,List.mem_filter,Option.isNone_iff_eq_none]
 have hscan:∀f,f∈scanD D typ x.snap P↔f.1.1=typ∧atV (ofD D f.1) x.snap=some f.2∧f.2.live=true∧P f.2.val=true:=fun f=>by
  unfold scanD
  rw [List.mem_filter,mem_walkD hD,Bool.and_eq_true,decide_eq_true_iff]
  constructor
  ·rintro ⟨⟨h1,h2⟩,h3,h4⟩;exact ⟨h3,h1,h2,h4⟩
  ·rintro ⟨h3,h1,h2,h4⟩;exact ⟨⟨h1,h2⟩,h3,h4⟩
 have hin:∀f∈overW x.wr (scanD D typ x.snap P) typ P,f.1.1=typ∧∃v,isS D x f.1=some v∧v.live=true∧P v.val=true:=fun f hf=>by
  rcases (hmem f).1 hf with ⟨h1,h2⟩|h1
  ·obtain ⟨q1,q2,q3,q4⟩:=(hscan f).1 h1
   refine ⟨q1,f.2,?_,q3,q4⟩
   unfold isS oldS
   rw [h2]
   exact q2
  ·obtain ⟨v,q1,q2,q3,_⟩:=hitsW_mem h1
   have hg:=getW_of hw.rise q1
   refine ⟨q2,⟨((oldS D x.snap f.1).getD zeroV).num+1,0,0,true,v⟩,?_,rfl,q3⟩
   unfold isS
   rw [show getW x.wr f.1=some (some v) from hg]
   rfl
 have hnd:((overW x.wr (scanD D typ x.snap P) typ P).map Prod.fst).Nodup:=by
  have hp:(overW x.wr (scanD D typ x.snap P) typ P).Perm (freeW x.wr (scanD D typ x.snap P)++hitsW x.wr typ P):=by
   unfold overW sortP
   have go:∀(l a:List (Ky × Vr)),(l.foldl (fun a x=>insP x a) a).Perm (a++l):=by
    intro l
    induction l with
    | nil=>intro a;simp
    | cons z l ih =>
     intro a
     have hi:∀(b:List (Ky × Vr)),(insP z b).Perm (z::b):=by
      intro b
      induction b with
      | nil=>exact List.Perm.refl _
      | cons y r ihb =>
       unfold insP
       split
       ·exact List.Perm.refl _
       ·exact (List.Perm.cons y ihb).trans (List.Perm.swap z y r)
     rw [List.foldl_cons]
     refine (ih (insP z a)).trans ?_
     refine ((hi a).append_right l).trans ?_
     exact (List.perm_middle (a:=z) (l₁:=a) (l₂:=l)).symm
   exact go _ []
  refine (hp.map Prod.fst).nodup_iff.2 ?_
  rw [List.map_append,List.nodup_append]
  have hr:∀l:List Ky,RisingR ltKy l→l.Nodup:=fun l hl=>List.Pairwise.imp (fun {a b} h e=>by rw [e,totK.irr] at h;cases h) hl
  refine ⟨?_,?_,?_⟩
  ·unfold freeW scanD
   exact hr _ ((walkD_rise hD x.snap).sublist ((List.filter_sublist.trans List.filter_sublist).map _))
  ·have hsub:∀L:List RowW,((hitsW L typ P).map Prod.fst).Sublist (L.map Prod.fst):=by
    intro L
    induction L with
    | nil=>exact List.Sublist.refl _
    | cons y r ih =>
     unfold hitsW at *
     rw [List.filterMap_cons]
     cases hq:hitW typ P y with
     | none=>exact ih.cons _
     | some f =>
      have e:f.1=y.1:=by
       unfold hitW at hq
       split at hq
       ·split at hq
        ·injection hq with hq;rw [←hq]
        ·cases hq
       ·cases hq
      simp only [List.map_cons,e]
      exact ih.cons_cons _
   exact hr _ ((List.pairwise_map.2 hw.rise:RisingR ltKy (x.wr.map Prod.fst)).sublist (hsub _))
  ·intro a ha b hb e
   obtain ⟨f,hf,rfl⟩:=List.mem_map.1 ha
   obtain ⟨g,hg,rfl⟩:=List.mem_map.1 hb
   have h1:=(List.mem_filter.1 hf).2
   obtain ⟨v,q1,_⟩:=hitsW_mem hg
   rw [←e] at q1
   have:=getW_of hw.rise q1
   rw [show getW x.wr f.1=some (some v) from this] at h1
   cases h1
 have hrise:RisingR ltKy ((overW x.wr (scanD D typ x.snap P) typ P).map Prod.fst):=by
  have h1:RiseP (overW x.wr (scanD D typ x.snap P) typ P):=overW_rise _ _ _ _
  have h2:((overW x.wr (scanD D typ x.snap P) typ P).map Prod.fst).Pairwise (fun a b=>ltKy b a=false):=List.pairwise_map.2 h1
  refine List.Pairwise.imp ?_ (List.Pairwise.and h2 hnd)
  rintro a b ⟨q1,q2⟩
  rcases totK.tot a b with q|q|q
  ·exact q
  ·exact absurd q q2
  ·rw [q1] at q;cases q
 refine finds_uniq ?_ (scanS_rise hD x typ P) (fun f=>?_) (isS D x) fun f hf=>?_
 ·rw [List.map_map]
  exact hrise
 ·rw [scanS_mem hD,List.mem_map]
  constructor
  ·rintro ⟨g,hg,rfl⟩
   obtain ⟨q1,v,q2,q3,q4⟩:=hin g hg
   simp only [q2,Option.getD_some]
   exact ⟨q1,trivial,q3,q4⟩
  ·rintro ⟨q1,q2,q3,q4⟩
   cases hg:getW x.wr f.1 with
   | none =>
    have ho:atV (ofD D f.1) x.snap=some f.2:=by
     unfold isS oldS at q2
     rw [hg] at q2
     exact q2
    refine ⟨f,(hmem f).2 (Or.inl ⟨(hscan f).2 ⟨q1,ho,q3,q4⟩,hg⟩),?_⟩
    simp only [q2,Option.getD_some]
   | some e =>
    have h2:=q2
    unfold isS at h2
    rw [hg] at h2
    injection h2 with h2
    cases e with
    | none=>rw [←h2] at q3;cases q3
    | some v =>
     refine ⟨(f.1,⟨0,0,0,true,v⟩),(hmem _).2 (Or.inr ?_),?_⟩
     ·refine List.mem_filterMap.2 ⟨(f.1,some v),getW_mem hg,?_⟩
      unfold hitW
      have hv:P v=true:=by rw [←h2] at q4;exact q4
      simp [q1,hv]
     ·simp only [q2,Option.getD_some]
 ·obtain ⟨g,hg,rfl⟩:=List.mem_map.1 hf
  obtain ⟨_,v,q2,_⟩:=hin g hg
  simp only [q2,Option.getD_some]
theorem overW_few {D:List RowD} (h:OkD D) (L:List RowW) (typ:ByteArray) (t:Int) (P:List Fld→Bool):(overW L (scanD D typ t P) typ P).length≤countD D+L.length:=by
 rw [overW_len]
 have h1:(freeW L (scanD D typ t P)).length≤(scanD D typ t P).length:=List.length_filter_le _ _
 have h2:(hitsW L typ P).length≤L.length:=List.length_filterMap_le _ _
 have h3:(scanD D typ t P).length≤(walkD D t).length:=List.length_filter_le _ _
 have h4:(walkD D t).length≤D.length:=List.length_filterMap_le _ _
 have h5:D.length≤countD D:=by
  unfold countD
  have hne:∀r∈D,1≤r.2.length:=fun r hr=>by
   have:=(h.ok r hr).2
   cases hr2:r.2 with
   | nil=>exact absurd hr2 this
   | cons _ _=>simp
  clear h h1 h2 h3 h4
  induction D with
  | nil=>simp
  | cons r D ih =>
   have:=ih fun r hr=>hne r (List.mem_cons_of_mem _ hr)
   have:=hne r (List.mem_cons_self ..)
   simp only [List.map_cons,List.sum_cons,List.length_cons]
   omega
 omega
end
section
open Go.RowKit
theorem fitX_same {o d:List Fx} (h:o.map Fx.fld=d.map Fx.fld) (hf:FitX d):FitX o:=by
 refine ⟨?_,fun x hx=>?_⟩
 ·have:=congrArg List.length h
  rw [List.length_map,List.length_map] at this
  rw [this]
  exact hf.1
 ·have:x.fld∈d.map Fx.fld:=by rw [←h];exact List.mem_map_of_mem hx
  obtain ⟨y,hy,e⟩:=List.mem_map.1 this
  rw [←e]
  exact hf.2 y hy
theorem fd_off {n0 N:Nat} {w:World} {vs u:Value} {d:List Fd} {o:List Fx} (h:KFd.Own n0 w vs d) (hx:OwnJ N w u o) (k:Nat) (hk:vs.ownBlock=some k):¬ BlkX u o k:=by
 obtain ⟨cs,h1⟩:=own_type (show w.ownsRow n0 110 7 vs d.length (KFd.cells d) from h) hk
 intro hb
 rcases hb with hb|⟨f,hf,hb⟩
 ·obtain ⟨cs',h2⟩:=own_type hx.1.1 hb
  rw [h1] at h2
  injection h2 with h2
  injection h2 with _ h2
  exact absurd h2 (by decide)
 ·obtain ⟨cs',h2⟩:=own_type (show w.ownsRow N 9 1 f.sl f.txt.length (f.txt.map Value.string) from hx.1.2 f hf) hb
  rw [h1] at h2
  injection h2 with h2
  injection h2 with _ h2
  exact absurd h2 (by decide)
end
section
open Go.RowKit Go.Maps
structure TlSt (N:Nat) (W:World) (v:Value) (fs:List Fd) (w:World):Prop where
 row:RowSt KFd N W v fs w
 val:∀f∈fs,OwnJ N w f.v.sl f.v.o∧FitX f.v.o
 apart:ApartF fs
section
variable {N:Nat} {W:World} {v:Value} {fs:List Fd} {w:World}
theorem TlSt.nil (hb:Below N W w) (hN:N≤w.heap.size):TlSt N W (.slice none 0 0) [] w:=⟨RowSt.nil KFd hb hN,fun _ h=>by simp at h,List.Pairwise.nil⟩
theorem TlSt.on {w':World} (h:TlSt N W v fs w) (hb:Below w.heap.size w w'):TlSt N W v fs w':=⟨h.row.on hb,fun f hf=>⟨(h.val f hf).1.on hb,(h.val f hf).2⟩,h.apart⟩
theorem TlSt.push {M:Nat} {w1 w2:World} {v':Value} (h:TlSt N W v fs w) (hb:Below w.heap.size w w1) (x:Fd) (hx:OwnJ M w1 x.v.sl x.v.o) (hM:w.heap.size≤M) (hfx:FitX x.v.o) (hst:RowSt KFd N W v' (fs++[x]) w2) (hg:w1.grownBy w2 v.ownBlock):TlSt N W v' (fs++[x]) w2:=by
 have h1:=h.on hb
 have fr:Fr (fun k=>v.ownBlock=some k) w1 w2:=Fr.of_grown hg fun k hk=>hk
 have hk:∀{B:Nat} u o,OwnJ B w1 u o→OwnJ B w2 u o:=fun u o hJ=>ownJ_fr hJ fr fun k hb hv=>fd_off h1.row.own hJ k hv hb
 refine ⟨hst,fun y hy=>?_,?_⟩
 ·rcases List.mem_append.1 hy with hy|hy
  ·exact ⟨hk _ _ (h1.val y hy).1,(h1.val y hy).2⟩
  ·rw [List.mem_singleton.1 hy]
   exact ⟨own_weakJ (hk _ _ hx) (Nat.le_trans h.row.base hM),hfx⟩
 ·refine List.pairwise_append.2 ⟨h.apart,List.pairwise_singleton _ _,fun y hy z hz k hk1 hk2=>?_⟩
  rw [List.mem_singleton.1 hz] at hk2
  have e1:=(ownJ_blk (h.val y hy).1 k hk1).2
  have e2:=(ownJ_blk hx k hk2).1
  omega
end
structure SetAt (W:World) (r:Option Addr) (mp:Option Nat) (L:List RowW):Prop where
 all:∀w',Below W.heap.size W w'→Calls Tryz.prog 170 #[.pointer r] w' fun e w2=>e=.returned (.map mp)∧w2=w'
 look:∀ka kb,FitKy (ka,kb)→∃lv p c n,∀w',Below W.heap.size W w'→(Instr.lookup 243 (.map mp) (.agg #[.string ka,.string kb]) true).run Tryz.prog w'=.ok (.tuple #[.agg #[.bool lv,.slice p n c],.bool (getW L (ka,kb)).isSome]) w'
theorem SetAt.of {n0:Nat} {W:World} {B:Nat→Prop} {g m:Nat} {F:Ky→We} {O:Ky→List Fx} {L:List RowW} (h:PrgU n0 W B g m F O L):SetAt W (some ⟨g,0,none⟩) (some m) L :=
 ⟨fun w' hb=>allW_is g m w' (h.on hb).cell,fun ka kb hk=>by
  obtain ⟨lv,p,c,o,hl,_⟩:=LookS.of h ka kb hk
  exact ⟨lv,p,c,_,hl.look⟩⟩
theorem freeW_in (L:List RowW) (fs:List Fnd) (f:Fnd) (h:(getW L f.1).isSome=true):freeW L (fs++[f])=freeW L fs:=by
 unfold freeW
 rw [List.filter_append]
 cases e:getW L f.1<;>simp_all
theorem freeW_out (L:List RowW) (fs:List Fnd) (f:Fnd) (h:(getW L f.1).isSome=false):freeW L (fs++[f])=freeW L fs++[f]:=by
 unfold freeW
 rw [List.filter_append]
 cases e:getW L f.1<;>simp_all
theorem Tryz.infoFdS:(Tryz.prog.info? 110).map (fun i=>(i.zero,i.size,i.bytes))=some (some (.agg #[.string ⟨#[]⟩,.string ⟨#[]⟩,.int .i64 0,.int .u64 0,.int .i64 0,.bool false,.slice none 0 0]),7,88):=by kernel_rfl
def SpPost (W:World) (l:List Fnd) (e:Ending) (w':World):Prop:=∃v fs,e=.returned v∧TlSt W.heap.size W v fs w'∧fs.map Fd.fnd=l
set_option maxHeartbeats 8000000 in
set_option maxRecDepth 100000 in
theorem spared_any {W:World} {r:Option Addr} {mp:Option Nat} {L:List RowW} (h:SetAt W r mp L) (vf:Value) (fo:List Fd) (hfo:FoundIn W vf fo) (hl:fo.length≤100000000) :
  Calls Tryz.prog 162 #[.pointer r,vf] W fun e w'=>SpPost W (freeW L (fo.map Fd.fnd)) e w':=by
 obtain ⟨i0,hi0,hz0,hz1,hz2⟩:=info_parts Tryz.infoFdS
 obtain ⟨pf,cf,rfl⟩:∃p c,vf=.slice p fo.length c:=by obtain ⟨p,c,h1,_⟩:=hfo.is;exact ⟨p,c,h1⟩
 have HI0:=hid hi0
 have HFO:=hid hfo
 have HSA:=hid h
 have HST0:Hid (TlSt W.heap.size W (.slice none 0 0) [] W∧([]:List Fd).map Fd.fnd=freeW L ((fo.map Fd.fnd).take 0)):=⟨TlSt.nil (Below.refl _ _) (Nat.le_refl _),rfl⟩
 clear hi0 hfo h
 go_enter Tryz.func162,Tryz.ntmps162
 go_wp2_with fail
 go_loopg [5,12] fo.length (fun gg v5 vi wr=>∃(i:Nat) (p':Option Addr) (c':Nat) (fs:List Fd),vi=.int .i64 i∧v5=.slice p' fs.length c'∧i≤fo.length∧fo.length-i≤gg∧fs.length≤i∧Hid (TlSt W.heap.size W (.slice p' fs.length c') fs wr∧fs.map Fd.fnd=freeW L ((fo.map Fd.fnd).take i)))
 case atStart=>exact ⟨0,none,0,[],rfl,rfl,by omega,by omega,by simp,HST0.out⟩
 case round =>
  clear HST0
  obtain ⟨i,p',c',fs,rfl,rfl,hi,hgk,hfi,HI⟩:=hrel
  by_cases hlt:i<fo.length
  ·have hltz:(i:Int)<(fo.length:Int):=by omega
   have hiz:(0:Int)≤i:=by omega
   have hbw:Below W.heap.size W wr:=HI.out.1.row.bel
   have hfis:=HFO.out.on hbw
   obtain ⟨b1,o1,rfl,k1⟩:∃b off,pf=some ⟨b,off,none⟩∧KFd.At wr b off fo:=by
    obtain ⟨p',c',he,h⟩:=hfis.is
    injection he with e1 _ _
    subst e1
    rcases h with h|h
    ·rw [h] at hlt;simp at hlt
    ·exact h
   obtain ⟨y0,y1,y2,y3,y4,y5,y6⟩:=kfd_at k1 i hlt
   have hef:=hfis.each _ (List.getElem_mem hlt)
   have hkf:=hfis.kfit _ (List.getElem_mem hlt)
   have htk:(fo.map Fd.fnd).take (i+1)=(fo.map Fd.fnd).take i++[(fo[i]).fnd]:=by
    rw [List.take_succ_eq_append_getElem (by rw [List.length_map];exact hlt),List.getElem_map]
   have HTK:=hid htk
   clear htk k1 hfis
   generalize fo[i]=f at *
   obtain ⟨V,hV⟩:∃V,wr.alloc (.cells (encFd f).toArray 110)=V:=⟨_,rfl⟩
   obtain ⟨O,hO⟩:∃O,wr.heap.size=O:=⟨_,rfl⟩
   have hbV:Below wr.heap.size wr V:=by rw [←hV];exact (Below.refl _ _).alloc (Nat.le_refl _) _
   have hVo:V.heap[O]? = some (.cells (encFd f).toArray 110 (0,0)):=by rw [←hV,←hO];exact heap_alloc_new wr _
   have hVs:V.heap.size=O+1:=by rw [←hV,←hO];simp
   obtain ⟨lv,lp,lc,ln,hlook⟩:=HSA.out.look f.a f.b hkf
   have hWr:Below W.heap.size W V:=bel_then hbw hbw.size hbV
   have HBX:Hid (∀W':World,W'.heap[O]? = V.heap[O]?→CellsF W' O 0 f∧W'.frozen? ⟨O,6,none⟩=false):=fun W' h=>by
    have:=h.trans hVo
    obtain ⟨fa,fb,⟨fn,fq,ft,fl,fp,fc,fx⟩⟩:=f
    exact ⟨⟨by rw [Lib.cell_of_heap this];rfl,by rw [Lib.cell_of_heap this];rfl,by rw [Lib.cell_of_heap this];rfl,by rw [Lib.cell_of_heap this];rfl,by rw [Lib.cell_of_heap this];rfl,by rw [Lib.cell_of_heap this];rfl,by rw [Lib.cell_of_heap this];rfl⟩,Lib.frozen_of_heap this 6⟩
   have KS:Hid (∀W':World,Below V.heap.size V W'→W'.cell? ⟨O,0,none⟩=some (.string f.a)∧W'.cell? ⟨O,1,none⟩=some (.string f.b)∧(Instr.lookup 243 (.map mp) (.agg #[.string f.a,.string f.b]) true).run Tryz.prog W'=.ok (.tuple #[.agg #[.bool lv,.slice lp ln lc],.bool (getW L (f.a,f.b)).isSome]) W'):=fun W' hb=>by
    have hx:=(HBX.out W' (hb.block O (by omega))).1
    exact ⟨hx.1,hx.2.1,hlook W' (bel_then hWr hWr.size hb)⟩
   obtain ⟨X1,hX1⟩:∃X1,V.drew.alloc (.cells #[.bool false,.slice none 0 0] 259)=X1:=⟨_,rfl⟩
   have hb1:Below V.heap.size V X1:=by rw [←hX1];exact ((Below.refl _ V).drew).alloc (Nat.le_refl _) _
   have hb2:Below V.heap.size V (X1.setCell ⟨O+1,0,none⟩ (.bool lv)):=hb1.setCell (show V.heap.size≤O+1 by omega) _
   have hb3:Below V.heap.size V ((X1.setCell ⟨O+1,0,none⟩ (.bool lv)).setCell ⟨O+1,1,none⟩ (.slice lp ln lc)):=hb2.setCell (show V.heap.size≤O+1 by omega) _
   have ho1:X1.heap[O+1]? = some (.cells #[.bool false,.slice none 0 0] 259 (0,0)):=by rw [←hX1,←hVs];exact heap_alloc_new V.drew _
   obtain ⟨X3,hX3⟩:∃X3,(X1.setCell ⟨O+1,0,none⟩ (.bool lv)).setCell ⟨O+1,1,none⟩ (.slice lp ln lc)=X3:=⟨_,rfl⟩
   rw [hX3] at hb3
   have z0:X1.cell? ⟨O+1,0,none⟩=some (.bool false):=cz ho1
   have z1:X1.cell? ⟨O+1,1,none⟩=some (.slice none 0 0):=cz ho1
   have z2:=Lib.frozen_of_heap ho1 0
   have z3:=Lib.frozen_of_heap ho1 1
   have hbd:Below V.heap.size V V.drew:=(Below.refl _ V).drew
   have HALL:Hid (∀w':World,Below V.heap.size V w'→Calls Tryz.prog 170 #[.pointer r] w' fun e w2=>e=.returned (.map mp)∧w2=w'):=fun w' hb=>HSA.out.all w' (bel_then hWr hWr.size hb)
   have HBD:=hid hbd
   have HB1:=hid hb1
   have HB3:=hid hb3
   have HWR3:=hid (bel_then hbV hbV.size hb3)
   have q0:=KS.out V.drew hbd
   have q1:=KS.out _ hb1
   have q2:=KS.out _ hb3
   have hn3:=hb3.size
   have HX3:=hid ((HBX.out X3 (hb3.block O (by omega))))
   have HC:=hid (wcopied_any f.v.sl f.v.o X3 (IsXs.kept hef.1 (bel_then hbV hbV.size hb3)) hef.2.1 hef.2.2)
   have HEF:=hid hef.2
   clear hbw hef hkf hlook hWr hb1 hb2 hb3 ho1 hbd hbV KS
   obtain ⟨b,hb⟩:∃b,(getW L (f.a,f.b)).isSome=b:=⟨_,rfl⟩
   have HB:=hid hb
   rw [hb] at q0 q1 q2
   clear hb
   obtain ⟨fa,fb,⟨fn,fq,ft,fl,fp,fc,fx⟩⟩:=f
   simp only [encFd,encVx,Vx.sl,CellsF,CellsV,Nat.zero_add] at *
   go_wp2_with fail
   try rw [hO]
   try rw [hV]
   clear y0 y1 y2 y3 y4 y5 y6
   go_region_held3 (fun w'=>w'.cell? ⟨O,0,none⟩=some (.string fa)∧w'.cell? ⟨O,1,none⟩=some (.string fb)∧(Instr.lookup 243 (.map mp) (.agg #[.string fa,.string fb]) true).run Tryz.prog w'=.ok (.tuple #[.agg #[.bool lv,.slice lp ln lc],.bool b]) w')
    (first|exact q0|exact q1|exact q2)
    (first|(go_at_call 170;refine (HALL.out _ (by first|exact HBD.out|exact HB1.out)).mono ?_;rintro e w5 ⟨rfl,rfl⟩))
   all_goals
    try rw [hX3]
    cases b with
    | true =>
     have HN:Hid (TlSt W.heap.size W (.slice p' fs.length c') fs X3∧fs.map Fd.fnd=freeW L ((fo.map Fd.fnd).take (i+1))):=by
      refine ⟨HI.out.1.on HWR3.out,?_⟩
      rw [HTK.out,freeW_in L _ _ HB.out,HI.out.2]
     go_wp2_with fail
     go_roundg (fo.length-(i+1))
     case measure=>omega
     exact ⟨i+1,p',c',fs,by go_num,rfl,by omega,by omega,by omega,HN.out⟩
    | false =>
     obtain ⟨⟨s0,s1,s2,s3,s4,s5,s6⟩,s7⟩:=HX3.out
     go_wp2_with fail
     refine HC.out.mono ?_
     rintro e w5 ⟨u,o5,rfl,hJ5,ho5,hb5⟩
     obtain ⟨p5,f5,rfl⟩:=ownJ_slice hJ5
     have hk5:w5.heap[O]? = V.heap[O]?:=(hb5.block O (by omega)).trans (HB3.out.block O (by omega))
     obtain ⟨⟨e0,e1,e2,e3,e4,e5,e6⟩,e7⟩:=HBX.out w5 hk5
     have hs5:=hb5.size
     have hb6:Below wr.heap.size wr (w5.setCell ⟨O,6,none⟩ (.slice p5 o5.length f5)):=(bel_then HWR3.out HWR3.out.size hb5).setCell (by show wr.heap.size≤O;omega) _
     have hb7:Below wr.heap.size wr ((w5.setCell ⟨O,6,none⟩ (.slice p5 o5.length f5)).alloc (.cells #[.string fa,.string fb,.int .i64 fn,.int .u64 fq,.int .i64 ft,.bool fl,.slice p5 o5.length f5] 110)):=hb6.alloc hb6.size _
     have HROW:Hid (RowSt KFd W.heap.size W (.slice p' fs.length c') fs ((w5.setCell ⟨O,6,none⟩ (.slice p5 o5.length f5)).alloc (.cells #[.string fa,.string fb,.int .i64 fn,.int .u64 fq,.int .i64 ft,.bool fl,.slice p5 o5.length f5] 110))):=(HI.out.1.on hb7).row
     have hJ7:OwnJ X3.heap.size ((w5.setCell ⟨O,6,none⟩ (.slice p5 o5.length f5)).alloc (.cells #[.string fa,.string fb,.int .i64 fn,.int .u64 fq,.int .i64 ft,.bool fl,.slice p5 o5.length f5] 110)) (.slice p5 o5.length f5) o5:=(ownJ_set hJ5 (by omega) _).on ((Below.refl _ _).alloc (Nat.le_refl _) _)
     have HN7:Hid (((w5.setCell ⟨O,6,none⟩ (.slice p5 o5.length f5)).alloc (.cells #[.string fa,.string fb,.int .i64 fn,.int .u64 fq,.int .i64 ft,.bool fl,.slice p5 o5.length f5] 110)).heap[w5.heap.size]? = some (.cells #[.string fa,.string fb,.int .i64 fn,.int .u64 fq,.int .i64 ft,.bool fl,.slice p5 o5.length f5] 110 (0,0))):=by
      have:=heap_alloc_new (w5.setCell ⟨O,6,none⟩ (.slice p5 o5.length f5)) (.cells #[.string fa,.string fb,.int .i64 fn,.int .u64 fq,.int .i64 ft,.bool fl,.slice p5 o5.length f5] 110)
      have hz:(w5.setCell ⟨O,6,none⟩ (.slice p5 o5.length f5)).heap.size=w5.heap.size:=by simp
      rw [hz] at this
      exact this
     have HPU:Hid (∀g7 c7 w8,RowSt KFd W.heap.size W (.slice (some ⟨g7,0,none⟩) (fs.length+1) c7) (fs++[⟨fa,fb,⟨fn,fq,ft,fl,p5,f5,o5⟩⟩]) w8→((w5.setCell ⟨O,6,none⟩ (.slice p5 o5.length f5)).alloc (.cells #[.string fa,.string fb,.int .i64 fn,.int .u64 fq,.int .i64 ft,.bool fl,.slice p5 o5.length f5] 110)).grownBy w8 (Value.slice p' fs.length c').ownBlock →
       TlSt W.heap.size W (.slice (some ⟨g7,0,none⟩) (fs.length+1) c7) (fs++[⟨fa,fb,⟨fn,fq,ft,fl,p5,f5,o5⟩⟩]) w8∧(fs++[(⟨fa,fb,⟨fn,fq,ft,fl,p5,f5,o5⟩⟩:Fd)]).map Fd.fnd=freeW L ((fo.map Fd.fnd).take (i+1))):=fun g7 c7 w8 hst hg=>by
      refine ⟨HI.out.1.push hb7 ⟨fa,fb,⟨fn,fq,ft,fl,p5,f5,o5⟩⟩ hJ7 HWR3.out.size (fitX_same ho5 HEF.out.1) hst hg,?_⟩
      rw [HTK.out,freeW_out L _ _ HB.out,←HI.out.2,List.map_append]
      have hx:(⟨fa,fb,⟨fn,fq,ft,fl,p5,f5,o5⟩⟩:Fd).fnd=(⟨fa,fb,⟨fn,fq,ft,fl,fp,fc,fx⟩⟩:Fd).fnd:=by
       simp only [Fd.fnd,Vx.ver]
       rw [ho5]
      rw [List.map_singleton,hx]
     clear hJ5 ho5 hb5 hk5 hb6 hb7 hJ7 s0 s1 s2 s3 s4 s5 s6 s7 HC
     go_wp2_with (at_builtin;refine wpList_push KFd rfl _ _ 47 rfl i0 _ 88 Tryz.underlying47 HI0.out hz0 hz1 hz2 rfl W.heap.size W _ fs rfl HROW.out ⟨fa,fb,⟨fn,fq,ft,fl,p5,f5,o5⟩⟩ _ _ _ rfl rfl _ _ HN7.out (by unfold maxLen;omega) (by omega) ?_;intro g8 c8 w8 hst8 hg8 _;have HS8:=hid (HPU.out _ _ _ hst8 hg8);clear hst8 hg8)
     go_roundg (fo.length-(i+1))
     case measure=>omega
     exact ⟨i+1,some ⟨g8,0,none⟩,c8,fs++[⟨fa,fb,⟨fn,fq,ft,fl,p5,f5,o5⟩⟩],by go_num,by rw [List.length_append];rfl,by omega,by omega,by rw [List.length_append];simp;omega,by rw [List.length_append];exact HS8.out⟩
  ·have hltz:¬ (i:Int)<(fo.length:Int):=by omega
   have hti:(fo.map Fd.fnd).take i=fo.map Fd.fnd:=List.take_of_length_le (by rw [List.length_map];omega)
   rw [hti] at HI
   go_wp2_with fail
   go_ret
   exact ⟨_,fs,rfl,HI.out⟩
end
section
open Go.RowKit Go.Maps
def hitK (L:List RowW) (typ:ByteArray) (mt:List Fld→Bool) (k:Ky):Option Fnd:=(getW L k).bind fun r=>hitW typ mt (k,r)
theorem hitW_key {typ:ByteArray} {mt:List Fld→Bool} {k:Ky} {r:Wr} {f:Fnd} (h:hitW typ mt (k,r)=some f):f.1=k:=by
 unfold hitW at h
 split at h
 ·split at h
  ·injection h with h
   rw [←h]
  ·cases h
 ·cases h
theorem hitK_key {L:List RowW} {typ:ByteArray} {mt:List Fld→Bool} {k:Ky} {f:Fnd} (h:hitK L typ mt k=some f):f.1=k:=by
 unfold hitK at h
 cases e:getW L k with
 | none=>rw [e] at h;cases h
 | some r=>rw [e] at h;exact hitW_key h
theorem filterMap_sameW {α β:Type} {f g:α→Option β}:∀{l:List α},(∀x∈l,f x=g x)→l.filterMap f=l.filterMap g
 | [],_=>rfl
 | x::l,h=>by rw [List.filterMap_cons,List.filterMap_cons,h x (by simp),filterMap_sameW (l:=l) fun y hy=>h y (List.mem_cons_of_mem _ hy)]
theorem hitsW_keys {L:List RowW} (h:OkW L) (typ:ByteArray) (mt:List Fld→Bool):hitsW L typ mt=(keysW L).filterMap (hitK L typ mt):=by
 unfold hitsW keysW
 rw [List.filterMap_map]
 refine filterMap_sameW fun y hy=>?_
 show hitW typ mt y=(getW L y.1).bind fun r=>hitW typ mt (y.1,r)
 rw [getW_of h.rise hy]
 rfl
theorem hitsK_one {L:List RowW} {typ:ByteArray} {mt:List Fld→Bool} (k:Ky):∀{ks:List Ky},ks.Nodup→(k ∉ ks→hitK L typ mt k=none)→(ks.filterMap (hitK L typ mt)).filter (fun y=>decide (y.1=k))=(hitK L typ mt k).toList
 | [],_,h=>by rw [h (by simp)];rfl
 | x::ks,hn,h=>by
  obtain ⟨h1,h2⟩:=List.nodup_cons.1 hn
  by_cases e:x=k
  ·subst e
   have h3:(ks.filterMap (hitK L typ mt)).filter (fun y=>decide (y.1=x))=[]:=List.filter_eq_nil_iff.2 fun y hy=>by
    obtain ⟨z,hz,hy⟩:=List.mem_filterMap.1 hy
    rw [hitK_key hy]
    simp only [decide_eq_true_eq]
    rintro rfl
    exact h1 hz
   rw [List.filterMap_cons]
   cases hx:hitK L typ mt x with
   | none=>exact h3
   | some f =>
    simp only [List.filter_cons,hitK_key hx,decide_true,if_true,h3]
    rfl
  ·have ih:=hitsK_one (L:=L) (typ:=typ) (mt:=mt) k h2 fun hk=>h (by simp only [List.mem_cons,not_or];exact ⟨fun e'=>e e'.symm,hk⟩)
   rw [List.filterMap_cons]
   cases hx:hitK L typ mt x with
   | none=>exact ih
   | some f =>
    have hne:decide (f.1=k)=false:=decide_eq_false (by rw [hitK_key hx];exact e)
    simp only [List.filter_cons,hne]
    exact ih
theorem hits_any {L:List RowW} (h:OkW L) {typ:ByteArray} {mt:List Fld→Bool} {ks:List Ky} (hn:ks.Nodup) (hall:∀k,(getW L k).isSome=true→k∈ks) (k:Ky) :
  (ks.filterMap (hitK L typ mt)).filter (fun y=>decide (y.1=k))=(hitsW L typ mt).filter (fun y=>decide (y.1=k)):=by
 have hno:∀{l:List Ky},(∀j,(getW L j).isSome=true→j∈l)→k ∉ l→hitK L typ mt k=none:=fun hl hk=>by
  unfold hitK
  cases e:getW L k with
  | none=>rfl
  | some r=>exact absurd (hl k (by rw [e];rfl)) hk
 have hkn:(keysW L).Nodup:=by
  unfold keysW
  refine List.Pairwise.imp (R:=fun a b=>ltKy a b=true) (fun {a b} hab e=>?_) (List.pairwise_map.2 h.rise)
  rw [e,totK.irr] at hab
  cases hab
 rw [hitsK_one k hn (hno hall),hitsW_keys h,hitsK_one k hkn (hno fun j hj=>(keys_there j).2 hj)]
theorem txt_neW {a b:ByteArray} (h:a≠b):(a.toList==b.toList)=false:=by
 have:=Z.eqK_iff (a,a) (b,a)
 unfold Z.eqK at this
 rw [decide_eq_false (by intro e;injection e with e _;exact h e)] at this
 simpa using this
theorem ownJ_ncG {N:Nat} {W W':World} {u:Value} {o:List Fx} {row:Option Nat} (h:OwnJ N W u o) (hg:W.grownBy W' row) (hr:∀r,row=some r→∃ob:Obj,W.heap[r]? = some ob∧ob.isCells=false):OwnJ N W' u o :=
 ownJ_fr h (fr_rowG hg) fun k hk e=>by
  obtain ⟨ob,h2,h3⟩:=hr k e
  have:∃cs t,W.heap[k]? = some (.cells cs t (0,0)):=by
   rcases hk with hk|⟨f,hf,hk⟩
   ·obtain ⟨cs,hc⟩:=own_type h.1.1 hk
    exact ⟨cs,_,hc⟩
   ·obtain ⟨cs,hc⟩:=own_type (h.1.2 f hf) hk
    exact ⟨cs,_,hc⟩
  obtain ⟨cs,t,h1⟩:=this
  rw [h1] at h2
  injection h2 with h2
  rw [←h2] at h3
  cases h3
theorem TlSt.nc {N:Nat} {W:World} {v:Value} {fs:List Fd} {w w':World} {r:Nat} (h:TlSt N W v fs w) (hg:w.grownBy w' (some r)) (hr:∃ob:Obj,w.heap[r]? = some ob∧ob.isCells=false) (hN:N≤r):TlSt N W v fs w':=by
 have hr':∀k,some r=some k→∃ob:Obj,w.heap[k]? = some ob∧ob.isCells=false:=fun k e=>by injection e with e;rw [←e];exact hr
 exact ⟨⟨own_ncG h.row.own hg hr',below_grown h.row.bel hg (fun k e=>by injection e with e;omega) h.row.base,Nat.le_trans h.row.base hg.size⟩,fun f hf=>⟨ownJ_ncG (h.val f hf).1 hg hr',(h.val f hf).2⟩,h.apart⟩
structure TkSt (W:World) (m N:Nat) (F:Ky→We) (L:List RowW) (typ:ByteArray) (mt:List Fld→Bool) (seen:List Ky) (cnt:Nat) (v:Value) (fs:List Fd) (w:World):Prop where
 rng:RangeG MW w m N L.length (fS L F) L.length seen cnt
 tl:TlSt W.heap.size W v fs w
 eq:fs.map Fd.fnd=seen.filterMap (hitK L typ mt)
section
variable {W:World} {m N:Nat} {F:Ky→We} {L:List RowW} {typ:ByteArray} {mt:List Fld→Bool} {seen:List Ky} {cnt:Nat} {v:Value} {fs:List Fd} {w:World}
theorem TkSt.len (h:TkSt W m N F L typ mt seen cnt v fs w):fs.length≤seen.length∧seen.length+cnt≤L.length:=by
 have:=congrArg List.length h.eq
 rw [List.length_map] at this
 exact ⟨by rw [this];exact List.length_filterMap_le _ _,h.rng.nodup.2.2⟩
end
def TkPost (W:World) (L:List RowW) (typ:ByteArray) (mt:List Fld→Bool) (e:Ending) (w':World):Prop :=
 ∃(v:Value) (fs:List Fd) (ks:List Ky),e=.returned v∧TlSt W.heap.size W v fs w'∧fs.map Fd.fnd=ks.filterMap (hitK L typ mt)∧ks.Nodup∧(∀k,(getW L k).isSome=true→k∈ks)∧ks.length≤L.length
set_option maxHeartbeats 8000000 in
set_option maxRecDepth 100000 in
theorem taken_any {n0:Nat} {W:World} {B:Nat→Prop} {g m:Nat} {F:Ky→We} {O:Ky→List Fx} {L:List RowW} (h:PrgU n0 W B g m F O L) (typ:ByteArray) (pa:Option Addr) (pc:Nat) (pt:List Tm) (hp:KM.Is W (.slice pa pt.length pc) pt) (hpf:FitM pt) (hl:L.length≤100000000) :
  Calls Tryz.prog 163 #[.pointer (some ⟨g,0,none⟩),.string typ,.slice pa pt.length pc] W fun e w'=>TkPost W L typ (matchM pt) e w':=by
 obtain ⟨i0,hi0,hz0,hz1,hz2⟩:=info_parts Tryz.infoFdS
 have HI0:=hid hi0
 have HAL:=hid (allW_is g m W h.cell)
 have HS:=hid h
 have HP:=hid hp
 have HPF:=hid hpf
 obtain ⟨N,hN⟩:∃N,W.heap.size=N:=⟨_,rfl⟩
 have hM:=h.map
 have hmN:m<N:=by rw [←hN];exact hM.lt
 obtain ⟨mt,hmt⟩:∃mt,matchM pt=mt:=⟨_,rfl⟩
 rw [hmt]
 have HMT:=hid hmt
 clear h hp hpf hi0 hmt
 go_enter Tryz.func163,Tryz.ntmps163
 go_wp2_with fail
 refine HAL.out.mono ?_
 rintro e w0 ⟨rfl,rfl⟩
 go_wp2_with (at_range;refine wp_range_G (T:=MW) _ rfl _ rfl m L.length (fS L F) L.length rfl hM ?_;intro w1 hr0 hg0 hs0)
 go_frame
 try rw [hN] at hr0
 try rw [hN]
 have HB0:Below w0.heap.size w0 w1:=by
  have:=Fr.of_grown (P:=fun _=>False) hg0 fun k hk=>by cases hk
  exact this.below (Nat.le_refl _) fun k hk=>hk.elim
 have HST0:Hid (TkSt w0 m N F L typ mt [] L.length (.slice none 0 0) [] w1):=⟨hr0,TlSt.nil HB0 HB0.size,rfl⟩
 clear hr0 hg0 hs0 hM HB0
 go_loopg [7] L.length (fun gg v7 wr=>∃(seen:List Ky) (cnt:Nat) (p':Option Addr) (c':Nat) (fs:List Fd),v7=.slice p' fs.length c'∧cnt≤gg∧Hid (TkSt w0 m N F L typ mt seen cnt (.slice p' fs.length c') fs wr))
 case atStart=>exact ⟨[],L.length,none,0,[],rfl,Nat.le_refl _,HST0.out⟩
 case round =>
  clear HST0
  obtain ⟨seen,cnt,p',c',fs,rfl,hgk,HT⟩:=hrel
  have hr:=HT.out.rng
  go_wp2_with (at_next;refine wp_next_G (T:=MW) _ rfl _ rfl m N L.length (fS L F) L.length seen cnt rfl hr ?_ ?_)
  ·intro hall
   have HE:Hid (TkPost w0 L typ mt (.returned (.slice p' fs.length c')) wr):=⟨_,fs,seen,rfl,HT.out.tl,HT.out.eq,hr.nodup.1,fun k hk=>by
    obtain ⟨r,hrr⟩:=Option.isSome_iff_exists.1 hk
    exact hall k.1 k.2 (keyB_fit (HS.out.ok.key _ (getW_mem hrr))) (by rw [fS_some];exact hk),by have:=hr.nodup.2.2;omega⟩
   clear hall hr
   go_wp2_with fail
   go_ret
   exact HE.out
  ·intro ka kb e w2 cnt2 hkf hks hfb hr2 hlt hg2 hs2 hen
   have hfb':fS L F (ka,kb)=some e:=hfb
   have hsome:(getW L (ka,kb)).isSome=true:=by rw [←fS_some (F:=F),hfb'];rfl
   obtain ⟨r,hgr⟩:=Option.isSome_iff_exists.1 hsome
   have hee:e=F (ka,kb):=by
    unfold fS at hfb'
    rw [hgr] at hfb'
    injection hfb' with hfb'
    exact hfb'.symm
   subst hee
   obtain ⟨hlive,hJ,hval⟩:=HS.out.row (ka,kb) r hgr
   obtain ⟨vp,vc,hsl⟩:=ownJ_slice hJ
   have hmay:mayB ((O (ka,kb)).map Fx.fld)=true:=by
    rw [hval]
    cases r with
    | none=>exact may_nil
    | some v=>exact HS.out.ok.may _ (getW_mem hgr) v rfl
   obtain ⟨si,sn,sc,hit⟩:=hr.iter
   have htl2:=HT.out.tl.nc hg2 ⟨_,hit,rfl⟩ (by omega)
   obtain ⟨lv,hlv⟩:∃lv,(F (ka,kb)).live=lv:=⟨_,rfl⟩
   obtain ⟨o,ho⟩:∃o,O (ka,kb)=o:=⟨_,rfl⟩
   rw [ho] at hsl hval hmay hJ
   rw [hlv] at hlive
   have ev:MW.val (F (ka,kb))=.agg #[.bool lv,.slice vp o.length vc]:=by
    show Value.agg #[.bool (F (ka,kb)).live,(F (ka,kb)).sl]=_
    rw [hlv,hsl]
   have ek:MW.key (ka,kb)=.agg #[.string ka,.string kb]:=rfl
   rw [ek,ev] at hen ⊢
   have HNX:Hid (∀W',Below w2.heap.size w2 W'→hitK L typ mt (ka,kb)=none→TkSt w0 m N F L typ mt (seen++[(ka,kb)]) cnt2 (.slice p' fs.length c') fs W'):=fun W' hb hno=>by
    refine ⟨hr2.on (hb.block _ hr2.map.lt) (hb.block _ hr2.lt),htl2.on hb,?_⟩
    rw [List.filterMap_append,HT.out.eq]
    simp [hno]
   have HIT:Hid (hitK L typ mt (ka,kb)=if lv=true∧ka=typ∧mt (o.map Fx.fld)=true then some ((ka,kb),⟨0,0,0,true,o.map Fx.fld⟩) else none):=by
    show hitK L typ mt (ka,kb)=_
    unfold hitK hitW
    rw [hgr]
    cases r with
    | none=>rw [hlive];simp
    | some v =>
     rw [hlive]
     have hv:o.map Fx.fld=v:=hval
     rw [hv]
     simp
   clear ek ev hfb hfb' hkf hks hsome hgr hlive hval hlv ho hit hr
   obtain ⟨Q,hQ⟩:∃Q,w2.heap.size=Q:=⟨_,rfl⟩
   clear hs2
   have hb3:Below w2.heap.size w2 ((w2.alloc (.cells #[.string ka,.string kb] 39)).alloc (.cells #[.bool lv,.slice vp o.length vc] 259)):=((Below.refl _ _).alloc (Nat.le_refl _) _).alloc (by simp) _
   obtain ⟨w3,hw3⟩:∃w3,(w2.alloc (.cells #[.string ka,.string kb] 39)).alloc (.cells #[.bool lv,.slice vp o.length vc] 259)=w3:=⟨_,rfl⟩
   have hx0:w3.heap[Q]? = some (.cells #[.string ka,.string kb] 39 (0,0)):=by rw [←hw3,←hQ];exact (Below.heap_alloc _ _ _ (by simp)).trans (heap_alloc_new w2 _)
   have hx1:w3.heap[Q+1]? = some (.cells #[.bool lv,.slice vp o.length vc] 259 (0,0)):=by
    have:=heap_alloc_new (w2.alloc (.cells #[.string ka,.string kb] 39)) (.cells #[.bool lv,.slice vp o.length vc] 259)
    rw [World.size_alloc,hQ,hw3] at this
    exact this
   have hs3:w3.heap.size=Q+2:=by rw [←hw3,←hQ];simp
   rw [hw3] at hb3
   have KB:Hid (∀W':World,Below w3.heap.size w3 W'→W'.cell? ⟨Q,0,none⟩=some (.string ka)∧W'.cell? ⟨Q,1,none⟩=some (.string kb)∧W'.cell? ⟨Q+1,1,none⟩=some (.slice vp o.length vc)∧W'.cell? ⟨Q+1,0,none⟩=some (.bool lv)):=fun W' hb=>by
    have y0:=(hb.block Q (by omega)).trans hx0
    have y1:=(hb.block (Q+1) (by omega)).trans hx1
    exact ⟨by rw [Lib.cell_of_heap y0];rfl,by rw [Lib.cell_of_heap y0];rfl,by rw [Lib.cell_of_heap y1];rfl,by rw [Lib.cell_of_heap y1];rfl⟩
   obtain ⟨k0,k1,k2,k3⟩:=KB.out w3 (Below.refl _ _)
   have hbw2:Below w0.heap.size w0 w2:=htl2.row.bel
   have hbw3:Below w0.heap.size w0 w3:=bel_then hbw2 hbw2.size hb3
   have HJ3:Hid (IsXs w3 (.slice vp o.length vc) o):=by
    show IsXs w3 (.slice vp o.length vc) o
    rw [←hsl]
    exact IsXs.kept hJ.1.is hbw3
   have HPT:=hid (Kind.is_kept HP.out hbw3)
   have HFX:=hid (may_fit hmay)
   have HB3:=hid hb3
   have HTL2:=hid htl2
   have HR2:=hid hr2
   have HEQ:=hid HT.out.eq
   have HLN:=hid HT.out.len
   clear hb3 hbw2 hbw3 htl2 hr2 hx0 hx1 hJ hmay hsl HT hg2
   by_cases e1:ka=typ
   ·subst e1
    cases lv with
    | false =>
     go_wp2_with fail
     try rw [hw3]
     go_roundg cnt2
     case measure=>omega
     exact ⟨seen++[(ka,kb)],cnt2,p',c',fs,rfl,Nat.le_refl _,HNX.out _ HB3.out (by rw [HIT.out,if_neg (by simp)])⟩
    | true =>
     have HM:=hid (pmatch_any (.slice pa pt.length pc) (.slice vp o.length vc) pt o w3 HPT.out HPF.out HJ3.out HFX.out.1 HFX.out.2.2)
     rw [HMT.out] at HM
     obtain ⟨bm,hbm⟩:∃b,mt (o.map Fx.fld)=b:=⟨_,rfl⟩
     rw [hbm] at HM
     have HBM:=hid hbm
     clear hbm
     cases bm with
     | false =>
      have HH:=hid (HIT.out.trans (if_neg (fun h=>by rw [HBM.out] at h;cases h.2.2)))
      clear HIT
      go_wp2_with (go_at_call 169;(try rw [hw3]);refine HM.out.mono ?_;rintro e w4 ⟨rfl,hb4⟩;have HB4:=hid hb4;clear hb4)
      go_roundg cnt2
      case measure=>omega
      exact ⟨seen++[(ka,kb)],cnt2,p',c',fs,rfl,Nat.le_refl _,HNX.out _ (bel_then HB3.out HB3.out.size HB4.out) HH.out⟩
     | true =>
      have HH:=hid (HIT.out.trans (if_pos ⟨rfl,rfl,HBM.out⟩))
      clear HIT
      go_wp2_with (go_at_call 169;(try rw [hw3]);refine HM.out.mono ?_;rintro e w4 ⟨rfl,hb4⟩;have HB4:=hid hb4;clear hb4)
      have q4:=KB.out w4.drew HB4.out.drew
      have HC:=hid (wcopied_any (.slice vp o.length vc) o w4.drew (IsXs.kept HJ3.out HB4.out.drew) HFX.out.1 HFX.out.2)
      have hs4:=HB4.out.size
      clear k0 k1 k2 k3 HM
      refine wp_region_held_drew (S:=fun w'=>w'.cell? ⟨Q,0,none⟩=some (.string ka)∧w'.cell? ⟨Q,1,none⟩=some (.string kb)∧w'.cell? ⟨Q+1,1,none⟩=some (.slice vp o.length vc)∧w'.cell? ⟨Q+1,0,none⟩=some (.bool true)) (by kernel_rfl) q4 (fun hHeld=>?_)
      refine tkv 0 (.slice p' fs.length c') hHeld ?_
      simp only [Act.put,sz]
      refine tkv 1 (.agg #[.string ka,.string kb]) hHeld ?_
      simp only [Act.put,sz]
      refine tkv 2 (.pointer (some ⟨Q+1,1,none⟩)) hHeld ?_
      simp only [Act.put,sz]
      refine tkv 3 (.slice vp o.length vc) hHeld ?_
      simp only [Act.put,sz]
      clear hHeld
      refine wpAnyH_ready (rs:=[4]) (by kernel_rfl) (by simp) ?_
      refine AllReadyH.cons (at_drop0 rfl) (fun K hK=>?_) AllReadyH.nil
      rw [if_pos (by rfl)]
      go_simp
      refine HC.out.mono ?_
      rintro e w5 ⟨u,o5,rfl,hJ5,ho5,hb5⟩
      obtain ⟨p5,f5,rfl⟩:=ownJ_slice hJ5
      obtain ⟨V5,hV5⟩:∃V5,w5.alloc (.cells (encFd ⟨ka,kb,⟨0,0,0,true,p5,f5,o5⟩⟩).toArray 110)=V5:=⟨_,rfl⟩
      obtain ⟨O5,hO5⟩:∃O5,w5.heap.size=O5:=⟨_,rfl⟩
      have hbV5:Below w5.heap.size w5 V5:=by rw [←hV5];exact (Below.refl _ _).alloc (Nat.le_refl _) _
      have hVo5:V5.heap[O5]? = some (.cells (encFd ⟨ka,kb,⟨0,0,0,true,p5,f5,o5⟩⟩).toArray 110 (0,0)):=by rw [←hV5,←hO5];exact heap_alloc_new w5 _
      have hb45:Below w4.heap.size w4 w5:=(bel_drewN (Below.refl _ _) 1).trans hb5
      have hb35:Below w3.heap.size w3 w5:=bel_then HB4.out HB4.out.size hb45
      have hb2V:Below w2.heap.size w2 V5:=bel_then (bel_then HB3.out HB3.out.size hb35) (Nat.le_trans HB3.out.size hb35.size) hbV5
      have HROW:=hid (HTL2.out.on hb2V).row
      have hJV:OwnJ w4.heap.size V5 (.slice p5 o5.length f5) o5:=OwnJ.on hJ5 hbV5
      have HPU:Hid (∀g7 c7 w8,RowSt KFd w0.heap.size w0 (.slice (some ⟨g7,0,none⟩) (fs.length+1) c7) (fs++[⟨ka,kb,⟨0,0,0,true,p5,f5,o5⟩⟩]) w8→V5.grownBy w8 (Value.slice p' fs.length c').ownBlock →
        TkSt w0 m N F L ka mt (seen++[(ka,kb)]) cnt2 (.slice (some ⟨g7,0,none⟩) (fs.length+1) c7) (fs++[⟨ka,kb,⟨0,0,0,true,p5,f5,o5⟩⟩]) w8∧Below w0.heap.size w0 w8∧w8.heap[Q]? = w3.heap[Q]?∧w8.heap[Q+1]? = w3.heap[Q+1]?):=fun g7 c7 w8 hst hg=>by
       have hrV:=HR2.out.on (hb2V.block _ HR2.out.map.lt) (hb2V.block _ HR2.out.lt)
       have hoff:∀b,(∀cs t fz,V5.heap[b]?≠some (.cells cs t fz))→some b≠(Value.slice p' fs.length c').ownBlock:=fun b hn e=>by
        obtain ⟨cs,hc⟩:=own_type (show V5.ownsRow w0.heap.size 110 7 _ fs.length (KFd.cells fs) from HROW.out.own) e.symm
        exact hn _ _ _ hc
       have hlow:∀b,(Value.slice p' fs.length c').ownBlock=some b→b<w2.heap.size:=fun b hb=>(World.ownsRow.lt HTL2.out.row.own b hb).2
       refine ⟨⟨?_,HTL2.out.push hb2V ⟨ka,kb,⟨0,0,0,true,p5,f5,o5⟩⟩ hJV (Nat.le_trans HB3.out.size HB4.out.size) (fitX_same ho5 HFX.out.1) hst hg,?_⟩,hst.bel,?_,?_⟩
       ·obtain ⟨es,cl,hme⟩:=hrV.map.obj
        obtain ⟨si,sn,sc,hie⟩:=hrV.iter
        exact hrV.on (hg.block m hrV.map.lt (hoff m fun _ _ _ e=>by rw [hme] at e;cases e)) (hg.block N hrV.lt (hoff N fun _ _ _ e=>by rw [hie] at e;cases e))
       ·rw [List.map_append,HEQ.out,List.filterMap_append]
        congr 1
        rw [List.filterMap_cons,HH.out,←ho5]
        rfl
       ·exact (hg.block Q (by have:=hbV5.size;have:=hb35.size;omega) fun e=>by have:=hlow Q e.symm;omega).trans ((hbV5.block Q (by have:=hb35.size;omega)).trans (hb35.block Q (by omega)))
       ·exact (hg.block (Q+1) (by have:=hbV5.size;have:=hb35.size;omega) fun e=>by have:=hlow (Q+1) e.symm;omega).trans ((hbV5.block (Q+1) (by have:=hb35.size;omega)).trans (hb35.block (Q+1) (by omega)))
      have q5:=KB.out w5 hb35
      have qV:=KB.out V5 (bel_then hb35 hb35.size hbV5)
      have HN5:=hid hVo5
      have HHB:Hid (∀w8:World,w8.heap[Q]? = w3.heap[Q]?→w8.heap[Q+1]? = w3.heap[Q+1]?→w8.cell? ⟨Q,0,none⟩=some (.string ka)∧w8.cell? ⟨Q,1,none⟩=some (.string kb)∧w8.cell? ⟨Q+1,1,none⟩=some (.slice vp o.length vc)∧w8.cell? ⟨Q+1,0,none⟩=some (.bool true)):=fun w8 h0 h1=>by
       obtain ⟨a0,a1,a2,a3⟩:=KB.out w3 (Below.refl _ _)
       exact ⟨(World.cell?_of_block h0).trans a0,(World.cell?_of_block h0).trans a1,(World.cell?_of_block h1).trans a2,(World.cell?_of_block h1).trans a3⟩
      simp only [encFd,encVx,Vx.sl] at *
      clear hJ5 ho5 hb5 hbV5 hVo5 hb45 hb35 hb2V hJV HC
      go_wp2_with fail
      refine hK.out _ _ q5 (fun hHeld=>?_)
      clear hK K
      try simp only [Act.put,sz]
      refine tkv 5 (.agg #[.int .i64 0,.int .u64 0,.int .i64 0,.bool true,.slice p5 o5.length f5]) hHeld ?_
      simp only [Act.put,sz]
      refine tkv 6 (.agg #[.string ka,.string kb,.int .i64 0,.int .u64 0,.int .i64 0,.bool true,.slice p5 o5.length f5]) hHeld ?_
      simp only [Act.put,sz]
      clear hHeld
      refine wpAnyH_ready (rs:=[7]) (by kernel_rfl) (by simp) ?_
      refine AllReadyH.cons (at_drop0 rfl) (fun K hK=>?_) AllReadyH.nil
      rw [if_pos (by rfl)]
      go_simp
      go_wp2_with fail
      try rw [hV5]
      try rw [hO5]
      refine hK.out _ _ qV (fun hHeld=>?_)
      clear hK K
      try simp only [Act.put,sz]
      clear hHeld
      have hln:=HLN.out
      refine wpAnyH_ready (rs:=[8]) (by kernel_rfl) (by simp) ?_
      refine AllReadyH.cons (at_drop0 rfl) (fun K hK=>?_) AllReadyH.nil
      refine step_push KFd rfl _ _ 47 rfl i0 _ 88 Tryz.underlying47 HI0.out hz0 hz1 hz2 rfl w0.heap.size w0 _ fs rfl HROW.out ⟨ka,kb,⟨0,0,0,true,p5,f5,o5⟩⟩ O5 _ _ rfl rfl _ _ HN5.out (by unfold maxLen;omega) (by omega) ?_
      intro g8 c8 w8 hst8 hg8 _
      obtain ⟨ht8,_,hq0,hq1⟩:=HPU.out g8 c8 w8 hst8 hg8
      have HT8:=hid ht8
      have q8:=HHB.out w8 hq0 hq1
      clear hst8 hg8 ht8 hq0 hq1 qV q5 hln
      refine hK.out _ _ q8 (fun hHeld=>?_)
      clear hK K
      try simp only [Act.put,sz]
      refine tkv 9 (.slice (some ⟨g8,0,none⟩) (fs.length+1) c8) hHeld ?_
      simp only [Act.put,sz]
      refine wpAnyH_done (by kernel_rfl) ?_ _
      clear hHeld q8
      go_wp2_with fail
      go_roundg cnt2
      case measure=>omega
      exact ⟨seen++[(ka,kb)],cnt2,some ⟨g8,0,none⟩,c8,fs++[⟨ka,kb,⟨0,0,0,true,p5,f5,o5⟩⟩],by rw [List.length_append];rfl,Nat.le_refl _,by rw [List.length_append];exact HT8.out⟩
   ·have hne:=txt_neW e1
    go_wp2_with fail
    try rw [hw3]
    go_roundg cnt2
    case measure=>omega
    exact ⟨seen++[(ka,kb)],cnt2,p',c',fs,rfl,Nat.le_refl _,HNX.out _ HB3.out (by rw [HIT.out,if_neg (fun h=>e1 h.2.1)])⟩
end
section
open Go.RowKit Go.Sort Go.Lib Go.Shelf
def kFd:Nat:=7
theorem size_fd:∀w,(Go.sizeOf 110).run Tryz.prog w=.ok kFd w:=Tryz.sizeOf110
def Fd.key (x:Fd):Ky:=(x.a,x.b)
def cmpY (x y:Fd):Int:=Z.cmpI x.a x.b y.a y.b
theorem ltY (x y:Fd):ltOf cmpY x y=ltOf Z.cmpK x.key y.key:=rfl
theorem swoY:SWO (ltOf cmpY) where
 irrefl x:=Z.swoK.irrefl x.key
 trans x y z h1 h2:=Z.swoK.trans x.key y.key z.key h1 h2
 ntrans x y z h1 h2:=Z.swoK.ntrans x.key y.key z.key h1 h2
theorem ltY_ne (x y:Fd) (h:ltOf cmpY x y=true):x.key≠y.key:=fun e=>by
 rw [ltY,e,Z.swoK.irrefl] at h
 cases h
theorem ltY_true {x y:Fd} (h:ltOf cmpY x y=true):cmpY x y<0:=of_decide_eq_true h
theorem ltY_false {x y:Fd} (h:ltOf cmpY x y=false):¬ cmpY x y<0:=of_decide_eq_false h
set_option maxHeartbeats 4000000 in
set_option maxRecDepth 100000 in
theorem overCmp_any (x y:Fd) (w:World):Calls Tryz.prog 165 #[.agg (encFd x).toArray,.agg (encFd y).toArray] w fun e w'=>e=.returned (.int .i64 (cmpY x y))∧Grown w w':=by
 have H2:Hid (∀w,Calls Tryz.prog 166 #[.agg #[.string x.a,.string x.b],.agg #[.string y.a,.string y.b]] w fun e w'=>e=.returned (.int .i64 (cmpY x y))∧Grown w w'):=fun w =>
  (Z.compare_eq x.a x.b y.a y.b w).mono fun e w' ⟨h1,h2⟩=>⟨h1,by rw [h2];exact ((((Grown.refl _).alloc _).alloc _).alloc _).drewN 1⟩
 generalize cmpY x y=p2 at H2 ⊢
 obtain ⟨xa,xb,xn,xs,xt,xl,xp,xc,xo⟩:=x
 obtain ⟨ya,yb,yn,ys,yt,yl,yp,yc,yo⟩:=y
 simp only [encFd,encVx,Vx.sl] at *
 have HG:Hid (Grown w ((w.alloc (.cells #[.string xa,.string xb,.int .i64 xn,.int .u64 xs,.int .i64 xt,.bool xl,.slice xp xo.length xc] 110)).alloc (.cells #[.string ya,.string yb,.int .i64 yn,.int .u64 ys,.int .i64 yt,.bool yl,.slice yp yo.length yc] 110))):=((Grown.refl _).alloc _).alloc _
 go_enter Tryz.func165,Tryz.ntmps165
 go_wp2_with fail
 refine (H2.out _).mono ?_
 rintro e w6 ⟨rfl,hg6⟩
 have HG6:=hid (HG.out.trans hg6)
 clear hg6
 go_wp2_with fail
 go_ret
 exact ⟨rfl,HG6.out⟩
theorem cmpY_in (x y:Fd) (W:World) (n:Nat) (os:Array Obj) :
  Calls Tryz.prog 165 #[.agg (encFd x).toArray,.agg (encFd y).toArray] (grow (W.drewN n) os) fun e w'=>e=.returned (.int .i64 (cmpY x y))∧∃q os',w'=grow ((grow (W.drewN n) os).drewN q) os':=overCmp_any x y _
theorem cmpLaysY (blk off size:Nat) (w:World):CmpLays Tryz.prog 165 #[] encFd kFd cmpY blk off size w :=
 fun _ _ _ _ x y=>overCmp_any x y _
theorem enters_y:∀args w,(callFunc 165 args).run Tryz.prog w=.ok (.enter 165 args) w:=enters_of Tryz.func165 (by kernel_rfl) rfl
theorem encFd_one (x:Fd):∀v∈encFd x,v.oneCell'=true:=KFd.one x
theorem ins_y (blk off cap a b:Nat) (d:Array Fd) (w:World) (hH:HoldsK encFd kFd w blk off d) (hblk:blk<w.heap.size) (hab:a≤b) (hb:b≤d.size) (hsz:d.size<4611686018427387904) :
  Calls Tryz.prog 322 #[.slice (some ⟨blk,off,none⟩) d.size cap,.int .i64 a,.int .i64 b,.func (.func 165) #[] #[]] w fun e w' =>
   e=.returned (.tuple #[])∧∃n os,w'=sortWorldK encFd kFd w blk off n (Sort.insertionSort (ltOf cmpY) d a b) os :=
 AnyQ.insertionSortCmpFunc Tryz.insFnd kFd Tryz.isAgg110 size_fd encFd (fun _=>rfl) encFd_one cmpY 165 #[] blk off cap a b d w enters_y (cmpLaysY blk off d.size w) hH hblk hab hb hsz
def SortsY (w:World) (blk off:Nat) (d:Array Fd) (w':World):Prop :=
 ∃d' n os,PermIn 0 d.size d d'∧SortedIn (ltOf cmpY) 0 d.size d'∧Stab Fd.key d d'∧w'=sortWorldK encFd kFd w blk off n d' os
set_option maxHeartbeats 2000000 in
set_option maxRecDepth 100000 in
theorem ins_none_y (p:Option Addr) (cap:Nat) (fv:Value) (w:World) :
  Calls Tryz.prog 322 #[.slice p 0 cap,.int .i64 0,.int .i64 0,fv] w fun e w'=>e=.returned (.tuple #[])∧w'=w:=by
 go_enter Tryz.func322,Tryz.ntmps322
 go_wp2_with fail
 refine wp_loop_rounds 1 ?_
 rw [rounds_succ]
 go_wp2_with fail
 go_end0
 exact ⟨rfl,rfl⟩
set_option maxHeartbeats 2000000 in
set_option maxRecDepth 100000 in
theorem stable_none_y (p:Option Addr) (cap:Nat) (fv:Value) (w:World) :
  Calls Tryz.prog 249 #[.slice p 0 cap,.int .i64 0,fv] w fun e w'=>e=.returned (.tuple #[])∧w'=w:=by
 go_enter Tryz.func249,Tryz.ntmps249
 go_wp2_with fail
 refine wp_loop_rounds 1 ?_
 rw [rounds_succ]
 go_wp2_with (first|(go_at_call 322;refine (ins_none_y _ _ _ _).mono ?_;rintro e w1 ⟨rfl,rfl⟩))
 refine wp_loop_rounds 1 ?_
 rw [rounds_succ]
 go_wp2_with fail
 go_end0
 exact ⟨rfl,rfl⟩
set_option maxHeartbeats 1000000 in
theorem sort_none_y (p:Option Addr) (cap:Nat) (fv:Value) (w:World) :
  Calls Tryz.prog 164 #[.slice p 0 cap,fv] w fun e w'=>e=.returned (.tuple #[])∧w'=w:=by
 go_enter Tryz.func164,Tryz.ntmps164
 go_wp2_with (first|(go_at_call 249;refine (stable_none_y _ _ _ _).mono ?_;rintro e w1 ⟨rfl,rfl⟩))
 go_end0
 exact ⟨rfl,rfl⟩
end
section
open Go.RowKit Go.Sort Go.Lib Go.Shelf
attribute [local go_sem ↓] size_fd
def SwapdY (a b n:Nat) (d dk:Array Fd):Prop :=
 dk.size=d.size∧(∀t,t<n→dk[a+t]! = d[b+t]!)∧(∀t,t<n→dk[b+t]! = d[a+t]!)∧∀i,(i<a∨a+n≤i)→(i<b∨b+n≤i)→dk[i]! = d[i]!
theorem SwapdY.zero (a b:Nat) (d:Array Fd):SwapdY a b 0 d d:=⟨rfl,fun t ht=>by omega,fun t ht=>by omega,fun _ _ _=>rfl⟩
theorem SwapdY.step {a b n:Nat} {d dk:Array Fd} (h:SwapdY a b n d dk) (hab:a+n<b) (hb:b+n<d.size):SwapdY a b (n+1) d (swp dk (a+n) (b+n)):=by
 obtain ⟨h1,h2,h3,h4⟩:=h
 refine ⟨by rw [size_swp,h1],fun t ht=>?_,fun t ht=>?_,fun i hi hj=>?_⟩
 ·by_cases e:t=n
  ·subst e
   rw [swp_left _ _ _ (by omega) (by omega)]
   exact h4 _ (by omega) (by omega)
  ·rw [swp_other _ _ _ _ (by omega) (by omega)];exact h2 t (by omega)
 ·by_cases e:t=n
  ·subst e
   rw [swp_right _ _ _ (by omega)]
   exact h4 _ (by omega) (by omega)
  ·rw [swp_other _ _ _ _ (by omega) (by omega)];exact h3 t (by omega)
 ·rw [swp_other _ _ _ _ (by omega) (by omega)]
  exact h4 _ (by omega) (by omega)
set_option maxHeartbeats 4000000 in
set_option maxRecDepth 1000000 in
theorem swapR_y (blk off cap a b n:Nat) (fv:Value) (d0 d:Array Fd) (w0 w:World) (R:RowK encFd kFd w0 blk off d0) (hs:d0.size=d.size) (S:SWK encFd kFd w0 blk off d w) (hab:a+n≤b) (hb:b+n≤d.size) (hsz:d.size<2305843009213693952) :
  Calls Tryz.prog 396 #[.slice (some ⟨blk,off,none⟩) d.size cap,.int .i64 a,.int .i64 b,.int .i64 n,fv] w fun e w' =>
   e=.returned (.tuple #[])∧∃dk,SWK encFd kFd w0 blk off dk w'∧SwapdY a b n d dk:=by
 have mixed:=Tryz.mixed
 have aE:=Tryz.isAgg110
 have zE:=size_fd
 have S0:Aside (SWK encFd kFd w0 blk off d w):=S
 have RR:Aside (RowK encFd kFd w0 blk off d0):=R
 clear S R
 go_enter Tryz.func396,Tryz.ntmps396
 go_wp2_with fail
 go_loopg [10] n (fun kx s8 wr=>∃(i:Nat) (dk:Array Fd),s8=.int .i64 i∧i≤n∧n-i≤kx∧Aside (SwapdY a b i d dk)∧Aside (SWK encFd kFd w0 blk off dk wr))
 case atStart=>exact ⟨0,d,rfl,by omega,by omega,SwapdY.zero a b d,S0⟩
 case round =>
  clear S0
  obtain ⟨i,dk,rfl,hi,hkx,HS,S1⟩:=hrel
  by_cases hlt:i<n
  ·have hltz:(i:Int)<(n:Int):=by omega
   have hds:dk.size=d.size:=HS.out.1
   go_wp2_with fail
   have ea44:((a:Int)+(i:Int)).toNat=a+i:=by omega
   have pa44:(0:Int)≤(a:Int)+(i:Int):=by omega
   have ba44:(a:Int)+(i:Int)<(d.size:Int):=by omega
   have ra44:IntKind.i64.wrap ((a:Int)+(i:Int))=(a:Int)+(i:Int):=by rw [IntKind.wrap_i64];omega
   have ec44:((b:Int)+(i:Int)).toNat=b+i:=by omega
   have pc44:(0:Int)≤(b:Int)+(i:Int):=by omega
   have bc44:(b:Int)+(i:Int)<(d.size:Int):=by omega
   have rc44:IntKind.i64.wrap ((b:Int)+(i:Int))=(b:Int)+(i:Int):=by rw [IntKind.wrap_i64];omega
   have S2:Aside (SWK encFd kFd w0 blk off (swp dk (a+i) (b+i)) ((wr.drew.setCells blk (off+(a+i) * kFd) (encFd dk[b+i]!)).setCells blk (off+(b+i) * kFd) (encFd dk[a+i]!))):=S1.out.swapped RR.out (a+i) (b+i) (by omega) (by omega)
   have l44a:=S1.out.ld1 RR.out (by omega) Tryz.prog (a+i) (by omega)
   have l44b:=S1.out.ld1 RR.out (by omega) Tryz.prog (b+i) (by omega)
   have s44a:=S1.out.st1 RR.out (by omega) Tryz.prog (a+i) (by omega) dk[b+i]!
   have s44b:=S1.out.st2 RR.out (by omega) Tryz.prog (a+i) (b+i) (by omega) (by omega) dk[b+i]! dk[a+i]!
   have n44a:(encFd dk[a+i]!).length=kFd:=RR.out.hk _
   have n44b:(encFd dk[b+i]!).length=kFd:=RR.out.hk _
   generalize encFd dk[a+i]! = cI44 at S2 l44a s44b n44a
   generalize encFd dk[b+i]! = cJ44 at S2 l44b s44a s44b n44b
   clear S1
   go_wp2_with fail
   go_big_region_o
   clear l44a l44b s44a s44b
   generalize (wr.drew.setCells blk (off+(a+i) * kFd) cJ44).setCells blk (off+(b+i) * kFd) cI44=w2 at S2 ⊢
   go_wp2_with fail
   go_roundg (n-(i+1))
   case measure=>omega
   case rel=>exact ⟨i+1,swp dk (a+i) (b+i),by go_num,by omega,by omega,HS.out.step (by omega) (by omega),S2⟩
  ·have hltz:¬ (i:Int)<(n:Int):=by omega
   obtain rfl:i=n:=by omega
   go_wp2_with fail
   go_end0
   exact ⟨rfl,dk,S1.out,HS.out⟩
set_option maxHeartbeats 4000000 in
set_option maxRecDepth 1000000 in
theorem rotate_y (blk off cap a m b:Nat) (fv:Value) (d0 d:Array Fd) (w0 w:World) (R:RowK encFd kFd w0 blk off d0) (hs:d0.size=d.size) (S:SWK encFd kFd w0 blk off d w) (ham:a<m) (hmb:m<b) (hb:b≤d.size) (hsz:d.size<2305843009213693952) :
  Calls Tryz.prog 368 #[.slice (some ⟨blk,off,none⟩) d.size cap,.int .i64 a,.int .i64 m,.int .i64 b,fv] w fun e w' =>
   e=.returned (.tuple #[])∧∃dk,SWK encFd kFd w0 blk off dk w'∧Rot a m b d dk:=by
 have S0:Aside (SWK encFd kFd w0 blk off d w):=S
 have RR:Aside (RowK encFd kFd w0 blk off d0):=R
 clear S R
 have ei:IntKind.i64.wrap ((m:Int)-(a:Int))=((m-a:Nat):Int):=by rw [IntKind.wrap_i64];omega
 have ej:IntKind.i64.wrap ((b:Int)-(m:Int))=((b-m:Nat):Int):=by rw [IntKind.wrap_i64];omega
 go_enter Tryz.func368,Tryz.ntmps368
 go_wp2_with fail
 go_loopg [10,11] (b-a) (fun kx vi vj wr=>∃(i j:Nat) (dk:Array Fd),vi=.int .i64 i∧vj=.int .i64 j∧0<i∧0<j∧a+i≤m∧m+j≤b∧i+j≤kx∧dk.size=d.size∧Aside (∀d',Rot (m-i) m (m+j) dk d'→Rot a m b d d')∧Aside (SWK encFd kFd w0 blk off dk wr))
 case atStart=>exact ⟨m-a,b-m,d,rfl,rfl,by omega,by omega,by omega,by omega,by omega,rfl,fun d' h=>by rw [show m-(m-a)=a by omega,show m+(b-m)=b by omega] at h;exact h,S0⟩
 case round =>
  clear S0
  obtain ⟨i,j,dk,rfl,rfl,hi,hj,hai,hjb,hkx,hds,HR,S1⟩:=hrel
  have emi:IntKind.i64.wrap ((m:Int)-(i:Int))=((m-i:Nat):Int):=by rw [IntKind.wrap_i64];omega
  rcases Nat.lt_trichotomy i j with hij|hij|hij
  ·have hc:((i:Int)==(j:Int))=false:=beq_eq_false_iff_ne.2 (by omega)
   have hne:¬ (i:Int)=(j:Int):=by omega
   have hg:¬ (j:Int)<(i:Int):=by omega
   have e2:IntKind.i64.wrap ((m:Int)+(j:Int))=(m:Int)+(j:Int):=by rw [IntKind.wrap_i64];omega
   have e3:IntKind.i64.wrap ((m:Int)+(j:Int)-(i:Int))=((m+j-i:Nat):Int):=by rw [IntKind.wrap_i64];omega
   have e4:IntKind.i64.wrap ((j:Int)-(i:Int))=((j-i:Nat):Int):=by rw [IntKind.wrap_i64];omega
   have hc:=swapR_y blk off cap (m-i) (m+j-i) i fv d0 dk w0 wr RR.out (by omega) S1.out (by omega) (by omega) (by omega)
   rw [hds] at hc
   have HC:=hid hc
   clear hc S1
   go_wp2_with (first|(go_at_call 396;refine HC.out.mono ?_;rintro e w1 ⟨rfl,dl,hsl,hsw⟩;have HSL:Aside _:=hsl;have HSW:Aside _:=hsw;clear hsl hsw))
   go_roundg j
   case measure=>omega
   case rel =>
    refine ⟨i,j-i,dl,rfl,rfl,hi,by omega,hai,by omega,by omega,HSW.out.1.trans hds,fun d' h=>HR.out d' ?_,HSL⟩
    obtain ⟨k1,k2,k3,k4⟩:=HSW.out
    refine Rot.right (i:=i) (dk:=dl) (by omega) (by omega) (by omega) (by omega) k1 k2 (fun t ht=>?_) (fun x h1 h2=>k4 x (by omega) (by omega)) (by rw [show m+j-i=m+(j-i) by omega];exact h)
    exact k3 t ht
  ·subst hij
   have hc:=swapR_y blk off cap (m-i) m i fv d0 dk w0 wr RR.out (by omega) S1.out (by omega) (by omega) (by omega)
   rw [hds] at hc
   have HC:=hid hc
   clear hc S1
   go_wp2_with (first|(go_at_call 396;refine HC.out.mono ?_;rintro e w1 ⟨rfl,dl,hsl,hsw⟩;have HSL:Aside _:=hsl;have HSW:Aside _:=hsw;clear hsl hsw))
   go_end0
   obtain ⟨k1,k2,k3,k4⟩:=HSW.out
   exact ⟨rfl,dl,HSL.out,HR.out dl (Rot.even (i:=i) (by omega) (by omega) (by omega) (by omega) k1 k2 k3 k4)⟩
  ·have hc0:((i:Int)==(j:Int))=false:=beq_eq_false_iff_ne.2 (by omega)
   have hne:¬ (i:Int)=(j:Int):=by omega
   have hg:(j:Int)<(i:Int):=by omega
   have e4:IntKind.i64.wrap ((i:Int)-(j:Int))=((i-j:Nat):Int):=by rw [IntKind.wrap_i64];omega
   have hc:=swapR_y blk off cap (m-i) m j fv d0 dk w0 wr RR.out (by omega) S1.out (by omega) (by omega) (by omega)
   rw [hds] at hc
   have HC:=hid hc
   clear hc S1
   go_wp2_with (first|(go_at_call 396;refine HC.out.mono ?_;rintro e w1 ⟨rfl,dl,hsl,hsw⟩;have HSL:Aside _:=hsl;have HSW:Aside _:=hsw;clear hsl hsw))
   go_roundg i
   case measure=>omega
   case rel =>
    refine ⟨i-j,j,dl,rfl,rfl,by omega,hj,by omega,hjb,by omega,HSW.out.1.trans hds,fun d' h=>HR.out d' ?_,HSL⟩
    obtain ⟨k1,k2,k3,k4⟩:=HSW.out
    exact Rot.left (j:=j) (dk:=dl) (by omega) (by omega) (by omega) (by omega) k1 k2 k3 (fun x h1 h2=>k4 x (by omega) (by omega)) (by rw [show m-i+j=m-(i-j) by omega];exact h)
end
section
open Go.RowKit Go.Sort Go.Lib Go.Shelf
attribute [local go_sem ↓] size_fd
set_option maxHeartbeats 4000000 in
set_option maxRecDepth 1000000 in
theorem sym_left_y (blk off cap a m b:Nat) (d0 d:Array Fd) (w0 w:World) (R:RowK encFd kFd w0 blk off d0) (hs:d0.size=d.size) (S:SWK encFd kFd w0 blk off d w) (hm:m=a+1) (hmb:m<b) (hb:b≤d.size) (hsz:d.size<2305843009213693952) (hR:SortedIn (ltOf cmpY) m b d) :
  Calls Tryz.prog 323 #[.slice (some ⟨blk,off,none⟩) d.size cap,.int .i64 a,.int .i64 m,.int .i64 b,.func (.func 165) #[] #[]] w fun e w' =>
   e=.returned (.tuple #[])∧∃dk,SWK encFd kFd w0 blk off dk w'∧Mrg (ltOf cmpY) Fd.key a b d dk:=by
 have mixed:=Tryz.mixed
 have aE:=Tryz.isAgg110
 have zE:=size_fd
 have eg:=enters_y
 have S0:Aside (SWK encFd kFd w0 blk off d w):=S
 have RR:Aside (RowK encFd kFd w0 blk off d0):=R
 have HR:=hid hR
 have HM:=hid hm
 have e0:IntKind.i64.wrap ((m:Int)-(a:Int))=1:=by rw [IntKind.wrap_i64];omega
 have ham:a<m:=by omega
 clear S R hR hm
 go_enter Tryz.func323,Tryz.ntmps323
 go_wp2_with fail
 go_loopg [10,11] (b-m) (fun kx vi vj wr=>∃(i j:Nat),vi=.int .i64 i∧vj=.int .i64 j∧m≤i∧i≤j∧j≤b∧j-i≤kx∧Hid (m<i→ltOf cmpY d[i-1]! d[a]! = true)∧Hid (j<b→ltOf cmpY d[j]! d[a]! = false)∧Aside (SWK encFd kFd w0 blk off d wr))
 case atStart=>exact ⟨m,b,rfl,rfl,by omega,by omega,by omega,by omega,fun h=>absurd h (Nat.lt_irrefl _),fun h=>absurd h (Nat.lt_irrefl _),S0⟩
 case round =>
  clear S0
  obtain ⟨i,j,rfl,rfl,hmi,hij,hjb,hkx,HLO,HHI,S1⟩:=hrel
  by_cases hlt:i<j
  ·have hltz:(i:Int)<(j:Int):=by omega
   obtain ⟨h,hh⟩:∃h,(i+j) / 2=h:=⟨_,rfl⟩
   have hz:((i:Int)+(j:Int)) / 2=(h:Int):=by omega
   have h1:i≤h:=by omega
   have h2:h<j:=by omega
   clear hh
   go_wp2_with fail
   cases hL:ltOf cmpY d[h]! d[a]! with
   | true =>
    have ea:((h:Int)).toNat=h:=by omega
    have pa:(0:Int)≤(h:Int):=by omega
    have ba:(h:Int)<(d.size:Int):=by omega
    have ec:((a:Int)).toNat=a:=by omega
    have pc:(0:Int)≤(a:Int):=by omega
    have bc:(a:Int)<(d.size:Int):=by omega
    have la:=S1.out.ld RR.out (by omega) Tryz.prog (h) (by omega)
    have lb:=S1.out.ld RR.out (by omega) Tryz.prog (a) (by omega)
    have hv:=ltY_true hL
    have HL:=hid hL
    clear hL
    generalize d[h]! = x at la hv
    generalize d[a]! = y at lb hv
    have hd:decide (cmpY x y<0)=true:=decide_eq_true hv
    have hc:=cmpY_in x y wr
    go_wp2_with fail
    go_quiet_grown (first|(go_at_fn 165;refine Calls.grown_of (hc _ _)))
    have S2:Aside (SWK encFd kFd w0 blk off d (grow (wr.drewN nq) osq)):=S1.out.grown nq osq
    clear la lb hc S1
    generalize grow (wr.drewN nq) osq=w2 at S2 ⊢
    clear nq osq
    go_wp2_with fail
    go_roundg (j-(h+1))
    case measure=>omega
    case rel=>exact ⟨h+1,j,by go_num,rfl,by omega,by omega,hjb,by omega,fun _=>HL.out,HHI,S2⟩
   | false =>
    have ea:((h:Int)).toNat=h:=by omega
    have pa:(0:Int)≤(h:Int):=by omega
    have ba:(h:Int)<(d.size:Int):=by omega
    have ec:((a:Int)).toNat=a:=by omega
    have pc:(0:Int)≤(a:Int):=by omega
    have bc:(a:Int)<(d.size:Int):=by omega
    have la:=S1.out.ld RR.out (by omega) Tryz.prog (h) (by omega)
    have lb:=S1.out.ld RR.out (by omega) Tryz.prog (a) (by omega)
    have hv:=ltY_false hL
    have HL:=hid hL
    clear hL
    generalize d[h]! = x at la hv
    generalize d[a]! = y at lb hv
    have hd:decide (cmpY x y<0)=false:=decide_eq_false hv
    have hc:=cmpY_in x y wr
    go_wp2_with fail
    go_quiet_grown (first|(go_at_fn 165;refine Calls.grown_of (hc _ _)))
    have S2:Aside (SWK encFd kFd w0 blk off d (grow (wr.drewN nq) osq)):=S1.out.grown nq osq
    clear la lb hc S1
    generalize grow (wr.drewN nq) osq=w2 at S2 ⊢
    clear nq osq
    go_wp2_with fail
    go_roundg (h-i)
    case measure=>omega
    case rel=>exact ⟨i,h,rfl,rfl,hmi,h1,by omega,by omega,HLO,fun _=>HL.out,S2⟩
  ·have hltz:¬ (i:Int)<(j:Int):=by omega
   obtain rfl:i=j:=by omega
   have e1:IntKind.i64.wrap ((i:Int)-1)=((i-1:Nat):Int):=by rw [IntKind.wrap_i64];omega
   clear hij hkx hlt
   have SA:=S1
   go_wp2_with fail
   go_loopg [13] (b-a) (fun kx vk wr=>∃(k:Nat) (dk:Array Fd),vk=.int .i64 k∧a≤k∧k≤i-1∧i-1-k≤kx∧dk.size=d.size∧Aside (Rot a (a+1) (k+1) d dk)∧Aside (SWK encFd kFd w0 blk off dk wr))
   case atStart=>exact ⟨a,d,rfl,by omega,by omega,by omega,rfl,rot_none _ _ _,SA⟩
   case round =>
    clear SA S1
    obtain ⟨k,dk,rfl,hak,hki,hkx,hds,HT,S1⟩:=hrel
    by_cases hlt:k<i-1
    ·have hltz2:(k:Int)<((i-1:Nat):Int):=by omega
     go_wp2_with fail
     have ea:((k:Int)).toNat=k:=by omega
     have pa:(0:Int)≤(k:Int):=by omega
     have ba:(k:Int)<(d.size:Int):=by omega
     have ra:IntKind.i64.wrap ((k:Int))=(k:Int):=by rw [IntKind.wrap_i64];omega
     have ec:((k:Int)+1).toNat=k+1:=by omega
     have pc:(0:Int)≤(k:Int)+1:=by omega
     have bc:(k:Int)+1<(d.size:Int):=by omega
     have rc:IntKind.i64.wrap ((k:Int)+1)=(k:Int)+1:=by rw [IntKind.wrap_i64];omega
     have S2:Aside (SWK encFd kFd w0 blk off (swp dk (k) (k+1)) ((wr.drew.setCells blk (off+(k) * kFd) (encFd dk[k+1]!)).setCells blk (off+(k+1) * kFd) (encFd dk[k]!))):=S1.out.swapped RR.out (k) (k+1) (by omega) (by omega)
     have l44a:=S1.out.ld1 RR.out (by omega) Tryz.prog (k) (by omega)
     have l44b:=S1.out.ld1 RR.out (by omega) Tryz.prog (k+1) (by omega)
     have s44a:=S1.out.st1 RR.out (by omega) Tryz.prog (k) (by omega) dk[k+1]!
     have s44b:=S1.out.st2 RR.out (by omega) Tryz.prog (k) (k+1) (by omega) (by omega) dk[k+1]! dk[k]!
     have n44a:(encFd dk[k]!).length=kFd:=RR.out.hk _
     have n44b:(encFd dk[k+1]!).length=kFd:=RR.out.hk _
     generalize encFd dk[k]! = cI44 at S2 l44a s44b n44a
     generalize encFd dk[k+1]! = cJ44 at S2 l44b s44a s44b n44b
     clear S1
     go_wp2_with fail
     go_big_region_o
     clear l44a l44b s44a s44b
     generalize (wr.drew.setCells blk (off+(k) * kFd) cJ44).setCells blk (off+(k+1) * kFd) cI44=w2 at S2 ⊢
     go_wp2_with fail
     go_roundg (i-1-(k+1))
     case measure=>omega
     case rel=>exact ⟨k+1,swp dk k (k+1),by go_num,by omega,by omega,by omega,by rw [size_swp];exact hds,HT.out.shift_up hak (by omega),S2⟩
    ·have hltz2:¬ (k:Int)<((i-1:Nat):Int):=by omega
     go_wp2_with fail
     (try simp only [Exit.inBlock,Exit.then]);refine bodyPost_ret (results_none rfl _ _ _) rfl ?_
     have hk:k+1=i:=by omega
     have ht:=HT.out
     rw [hk] at ht
     have hlo:=HLO.out
     have hhi:=HHI.out
     have hr:=HR.out
     rw [HM.out] at hlo hr
     exact ⟨rfl,dk,S1.out,Mrg.one_left swoY ltY_ne ht (by omega) hjb hb hr hlo hhi⟩
set_option maxHeartbeats 4000000 in
set_option maxRecDepth 1000000 in
theorem sym_right_y (blk off cap a m b:Nat) (d0 d:Array Fd) (w0 w:World) (R:RowK encFd kFd w0 blk off d0) (hs:d0.size=d.size) (S:SWK encFd kFd w0 blk off d w) (hm:a+1<m) (hmb:b=m+1) (hb:b≤d.size) (hsz:d.size<2305843009213693952) (hL:SortedIn (ltOf cmpY) a m d) :
  Calls Tryz.prog 323 #[.slice (some ⟨blk,off,none⟩) d.size cap,.int .i64 a,.int .i64 m,.int .i64 b,.func (.func 165) #[] #[]] w fun e w' =>
   e=.returned (.tuple #[])∧∃dk,SWK encFd kFd w0 blk off dk w'∧Mrg (ltOf cmpY) Fd.key a b d dk:=by
 have mixed:=Tryz.mixed
 have aE:=Tryz.isAgg110
 have zE:=size_fd
 have eg:=enters_y
 have S0:Aside (SWK encFd kFd w0 blk off d w):=S
 have RR:Aside (RowK encFd kFd w0 blk off d0):=R
 have HR:=hid hL
 have HM:=hid hmb
 have e0:IntKind.i64.wrap ((m:Int)-(a:Int))=((m-a:Nat):Int):=by rw [IntKind.wrap_i64];omega
 have e1:(((m-a:Nat):Int)==1)=false:=beq_eq_false_iff_ne.2 (by omega)
 have e2:IntKind.i64.wrap ((b:Int)-(m:Int))=1:=by rw [IntKind.wrap_i64];omega
 have hms:m<d.size:=by omega
 clear S R hL hmb
 go_enter Tryz.func323,Tryz.ntmps323
 go_wp2_with fail
 go_loopg [14,15] (m-a) (fun kx vi vj wr=>∃(i j:Nat),vi=.int .i64 i∧vj=.int .i64 j∧a≤i∧i≤j∧j≤m∧j-i≤kx∧Hid (a<i→ltOf cmpY d[m]! d[i-1]! = false)∧Hid (j<m→ltOf cmpY d[m]! d[j]! = true)∧Aside (SWK encFd kFd w0 blk off d wr))
 case atStart=>exact ⟨a,m,rfl,rfl,by omega,by omega,by omega,by omega,fun h=>absurd h (Nat.lt_irrefl _),fun h=>absurd h (Nat.lt_irrefl _),S0⟩
 case round =>
  clear S0
  obtain ⟨i,j,rfl,rfl,hmi,hij,hjb,hkx,HLO,HHI,S1⟩:=hrel
  by_cases hlt:i<j
  ·have hltz:(i:Int)<(j:Int):=by omega
   obtain ⟨h,hh⟩:∃h,(i+j) / 2=h:=⟨_,rfl⟩
   have hz:((i:Int)+(j:Int)) / 2=(h:Int):=by omega
   have h1:i≤h:=by omega
   have h2:h<j:=by omega
   clear hh
   go_wp2_with fail
   cases hL:ltOf cmpY d[m]! d[h]! with
   | false =>
    have ea:((m:Int)).toNat=m:=by omega
    have pa:(0:Int)≤(m:Int):=by omega
    have ba:(m:Int)<(d.size:Int):=by omega
    have ec:((h:Int)).toNat=h:=by omega
    have pc:(0:Int)≤(h:Int):=by omega
    have bc:(h:Int)<(d.size:Int):=by omega
    have la:=S1.out.ld RR.out (by omega) Tryz.prog (m) (by omega)
    have lb:=S1.out.ld RR.out (by omega) Tryz.prog (h) (by omega)
    have hv:=ltY_false hL
    have HL:=hid hL
    clear hL
    generalize d[m]! = x at la hv
    generalize d[h]! = y at lb hv
    have hd:decide (cmpY x y<0)=false:=decide_eq_false hv
    have hc:=cmpY_in x y wr
    go_wp2_with fail
    go_quiet_grown (first|(go_at_fn 165;refine Calls.grown_of (hc _ _)))
    have S2:Aside (SWK encFd kFd w0 blk off d (grow (wr.drewN nq) osq)):=S1.out.grown nq osq
    clear la lb hc S1
    generalize grow (wr.drewN nq) osq=w2 at S2 ⊢
    clear nq osq
    go_wp2_with fail
    go_roundg (j-(h+1))
    case measure=>omega
    case rel=>exact ⟨h+1,j,by go_num,rfl,by omega,by omega,hjb,by omega,fun _=>HL.out,HHI,S2⟩
   | true =>
    have ea:((m:Int)).toNat=m:=by omega
    have pa:(0:Int)≤(m:Int):=by omega
    have ba:(m:Int)<(d.size:Int):=by omega
    have ec:((h:Int)).toNat=h:=by omega
    have pc:(0:Int)≤(h:Int):=by omega
    have bc:(h:Int)<(d.size:Int):=by omega
    have la:=S1.out.ld RR.out (by omega) Tryz.prog (m) (by omega)
    have lb:=S1.out.ld RR.out (by omega) Tryz.prog (h) (by omega)
    have hv:=ltY_true hL
    have HL:=hid hL
    clear hL
    generalize d[m]! = x at la hv
    generalize d[h]! = y at lb hv
    have hd:decide (cmpY x y<0)=true:=decide_eq_true hv
    have hc:=cmpY_in x y wr
    go_wp2_with fail
    go_quiet_grown (first|(go_at_fn 165;refine Calls.grown_of (hc _ _)))
    have S2:Aside (SWK encFd kFd w0 blk off d (grow (wr.drewN nq) osq)):=S1.out.grown nq osq
    clear la lb hc S1
    generalize grow (wr.drewN nq) osq=w2 at S2 ⊢
    clear nq osq
    go_wp2_with fail
    go_roundg (h-i)
    case measure=>omega
    case rel=>exact ⟨i,h,rfl,rfl,hmi,h1,by omega,by omega,HLO,fun _=>HL.out,S2⟩
  ·have hltz:¬ (i:Int)<(j:Int):=by omega
   obtain rfl:i=j:=by omega
   clear hij hkx hlt
   have SA:=S1
   go_wp2_with fail
   go_loopg [17] (m-a) (fun kx vk wr=>∃(k:Nat) (dk:Array Fd),vk=.int .i64 k∧i≤k∧k≤m∧k-i≤kx∧dk.size=d.size∧Aside (Rot k m (m+1) d dk)∧Aside (SWK encFd kFd w0 blk off dk wr))
   case atStart=>exact ⟨m,d,rfl,by omega,by omega,by omega,rfl,rot_none' _ _ _,SA⟩
   case round =>
    clear SA S1
    obtain ⟨k,dk,rfl,hak,hki,hkx,hds,HT,S1⟩:=hrel
    by_cases hlt:i<k
    ·obtain ⟨kp,rfl⟩:∃kp,k=kp+1:=⟨k-1,by omega⟩
     have hltz2:(i:Int)<(kp:Int)+1:=by omega
     go_wp2_with fail
     have ea:((kp:Int)+1).toNat=kp+1:=by omega
     have pa:(0:Int)≤(kp:Int)+1:=by omega
     have ba:(kp:Int)+1<(d.size:Int):=by omega
     have ra:IntKind.i64.wrap ((kp:Int)+1)=(kp:Int)+1:=by rw [IntKind.wrap_i64];omega
     have ec:((kp:Int)).toNat=kp:=by omega
     have pc:(0:Int)≤(kp:Int):=by omega
     have bc:(kp:Int)<(d.size:Int):=by omega
     have rc:IntKind.i64.wrap ((kp:Int))=(kp:Int):=by rw [IntKind.wrap_i64];omega
     have S2:Aside (SWK encFd kFd w0 blk off (swp dk (kp+1) (kp)) ((wr.drew.setCells blk (off+(kp+1) * kFd) (encFd dk[kp]!)).setCells blk (off+(kp) * kFd) (encFd dk[kp+1]!))):=S1.out.swapped RR.out (kp+1) (kp) (by omega) (by omega)
     have l44a:=S1.out.ld1 RR.out (by omega) Tryz.prog (kp+1) (by omega)
     have l44b:=S1.out.ld1 RR.out (by omega) Tryz.prog (kp) (by omega)
     have s44a:=S1.out.st1 RR.out (by omega) Tryz.prog (kp+1) (by omega) dk[kp]!
     have s44b:=S1.out.st2 RR.out (by omega) Tryz.prog (kp+1) (kp) (by omega) (by omega) dk[kp]! dk[kp+1]!
     have n44a:(encFd dk[kp+1]!).length=kFd:=RR.out.hk _
     have n44b:(encFd dk[kp]!).length=kFd:=RR.out.hk _
     generalize encFd dk[kp+1]! = cI44 at S2 l44a s44b n44a
     generalize encFd dk[kp]! = cJ44 at S2 l44b s44a s44b n44b
     clear S1
     go_wp2_with fail
     go_big_region_o
     clear l44a l44b s44a s44b
     generalize (wr.drew.setCells blk (off+(kp+1) * kFd) cJ44).setCells blk (off+(kp) * kFd) cI44=w2 at S2 ⊢
     go_wp2_with fail
     go_roundg (kp-i)
     case measure=>omega
     case rel=>exact ⟨kp,swp dk (kp+1) kp,by first|rfl|go_num,by omega,by omega,by omega,by rw [size_swp];exact hds,HT.out.shift_down (by omega) (by omega),S2⟩
    ·have hltz2:¬ (i:Int)<(k:Int):=by omega
     go_wp2_with fail
     (try simp only [Exit.inBlock,Exit.then]);refine bodyPost_ret (results_none rfl _ _ _) rfl ?_
     obtain rfl:k=i:=by omega
     have hlo:=HLO.out
     have hhi:=HHI.out
     rw [HM.out]
     exact ⟨rfl,dk,S1.out,Mrg.one_right swoY ltY_ne HT.out (by omega) (by omega) (by omega) HR.out hlo hhi⟩
end
section
open Go.RowKit Go.Sort Go.Lib Go.Shelf
attribute [local go_sem ↓] size_fd
def SymIsY (blk off cap:Nat) (d0:Array Fd) (w0:World) (a m b:Nat):Prop :=
 ∀(d:Array Fd) (w:World),d0.size=d.size→b≤d.size→SWK encFd kFd w0 blk off d w→SortedIn (ltOf cmpY) a m d→SortedIn (ltOf cmpY) m b d →
  Calls Tryz.prog 323 #[.slice (some ⟨blk,off,none⟩) d.size cap,.int .i64 a,.int .i64 m,.int .i64 b,.func (.func 165) #[] #[]] w fun e w' =>
   e=.returned (.tuple #[])∧∃dk,SWK encFd kFd w0 blk off dk w'∧Mrg (ltOf cmpY) Fd.key a b d dk
set_option maxHeartbeats 8000000 in
set_option maxRecDepth 1000000 in
theorem sym_general_y (blk off cap a m b:Nat) (d0:Array Fd) (w0:World) (R:RowK encFd kFd w0 blk off d0) (hm:a+1<m) (hmb:m+1<b) (hsz:d0.size<2305843009213693952)
  (IH:∀a' m' b',a'<m'→m'<b'→b'-a'<b-a→SymIsY blk off cap d0 w0 a' m' b'):SymIsY blk off cap d0 w0 a m b:=by
 intro d w hs hb S hL hR
 have mixed:=Tryz.mixed
 have aE:=Tryz.isAgg110
 have zE:=size_fd
 have eg:=enters_y
 have S0:Aside (SWK encFd kFd w0 blk off d w):=S
 have RR:Aside (RowK encFd kFd w0 blk off d0):=R
 have HIH:=hid IH
 have HSL:=hid hL
 have HSR:=hid hR
 have e0:IntKind.i64.wrap ((m:Int)-(a:Int))=((m-a:Nat):Int):=by rw [IntKind.wrap_i64];omega
 have e1:(((m-a:Nat):Int)==1)=false:=beq_eq_false_iff_ne.2 (by omega)
 have e2:IntKind.i64.wrap ((b:Int)-(m:Int))=((b-m:Nat):Int):=by rw [IntKind.wrap_i64];omega
 have e3:(((b-m:Nat):Int)==1)=false:=beq_eq_false_iff_ne.2 (by omega)
 obtain ⟨mid,hmid⟩:∃mid,(a+b) / 2=mid:=⟨_,rfl⟩
 have hmz:((a:Int)+(b:Int)) / 2=(mid:Int):=by omega
 have hm1:2 * mid≤a+b:=by omega
 have hm2:a+b≤2 * mid+1:=by omega
 obtain ⟨nn,hnn⟩:∃nn,mid+m=nn:=⟨_,rfl⟩
 have hnz:(mid:Int)+(m:Int)=(nn:Int):=by omega
 have e5:IntKind.i64.wrap ((nn:Int)-1)=((nn-1:Nat):Int):=by rw [IntKind.wrap_i64];omega
 have HNN:=hid hnn
 clear S R hL hR IH hmid hnn
 go_enter Tryz.func323,Tryz.ntmps323
 go_upto_if 140 with fail
 go_cut [20,21] from 138 to 146 (fun vs vr wx=>w=wx∧∃s0 r0:Nat,vs=.int .i64 s0∧vr=.int .i64 r0∧s0≤r0∧((mid<m∧s0+b=nn∧r0=mid)∨(m≤mid∧s0=a∧r0=m)))
 case first =>
  by_cases hc:mid<m
  ·have hcz:(mid:Int)<(m:Int):=by omega
   have e4:IntKind.i64.wrap ((nn:Int)-(b:Int))=((nn-b:Nat):Int):=by rw [IntKind.wrap_i64];omega
   go_wp2_with fail
   go_meet
   case rel=>exact ⟨rfl,nn-b,mid,rfl,rfl,by have:=HNN.out;omega,Or.inl ⟨hc,by have:=HNN.out;omega,rfl⟩⟩
  ·have hcz:¬ (mid:Int)<(m:Int):=by omega
   go_wp2_with fail
   go_meet
   case rel=>exact ⟨rfl,a,m,rfl,rfl,by omega,Or.inr ⟨by omega,rfl,rfl⟩⟩
 case rest =>
 obtain ⟨rfl,s0,r0,rfl,rfl,hsr,hcase⟩:=hcut
 have hlo:a≤s0∧r0≤m∧r0≤mid∧nn-s0≤b∧nn-r0≥m∧r0<nn:=by have:=HNN.out;omega
 have HCASE:=hid hcase
 obtain ⟨k1,k2,k3,k4,k5,k6⟩:=hlo
 clear hcase
 go_wp2_with fail
 go_loopg [20,21] (r0-s0) (fun kx vs vr wr=>∃(s r:Nat),vs=.int .i64 s∧vr=.int .i64 r∧s0≤s∧s≤r∧r≤r0∧r-s≤kx∧Hid (s0<s→ltOf cmpY d[nn-s]! d[s-1]! = false)∧Hid (r<r0→ltOf cmpY d[nn-1-r]! d[r]! = true)∧Aside (SWK encFd kFd w0 blk off d wr))
 case atStart=>exact ⟨s0,r0,rfl,rfl,by omega,by omega,by omega,by omega,fun h=>absurd h (Nat.lt_irrefl _),fun h=>absurd h (Nat.lt_irrefl _),S0⟩
 case round =>
 clear S0
 obtain ⟨s,r,rfl,rfl,hs0,hsr2,hr0,hkx,HLO,HHI,S1⟩:=hrel
 by_cases hlt:s<r
 ·have hltz:(s:Int)<(r:Int):=by omega
  obtain ⟨c,hh⟩:∃c,(s+r) / 2=c:=⟨_,rfl⟩
  have hz:((s:Int)+(r:Int)) / 2=(c:Int):=by omega
  have h1:s≤c:=by omega
  have h2:c<r:=by omega
  have e6:IntKind.i64.wrap (((nn-1:Nat):Int)-(c:Int))=((nn-1-c:Nat):Int):=by rw [IntKind.wrap_i64];omega
  clear hh
  go_wp2_with fail
  cases hL:ltOf cmpY d[nn-1-c]! d[c]! with
  | false =>
   have ea:(((nn-1-c:Nat):Int)).toNat=nn-1-c:=by omega
   have pa:(0:Int)≤((nn-1-c:Nat):Int):=by omega
   have ba:((nn-1-c:Nat):Int)<(d.size:Int):=by omega
   have ec:((c:Int)).toNat=c:=by omega
   have pc:(0:Int)≤(c:Int):=by omega
   have bc:(c:Int)<(d.size:Int):=by omega
   have la:=S1.out.ld RR.out (by omega) Tryz.prog (nn-1-c) (by omega)
   have lb:=S1.out.ld RR.out (by omega) Tryz.prog (c) (by omega)
   have hv:=ltY_false hL
   have HL:=hid hL
   clear hL
   generalize d[nn-1-c]! = x at la hv
   generalize d[c]! = y at lb hv
   have hd:decide (cmpY x y<0)=false:=decide_eq_false hv
   have hc:=cmpY_in x y wr
   go_wp2_with fail
   go_quiet_grown (first|(go_at_fn 165;refine Calls.grown_of (hc _ _)))
   have S2:Aside (SWK encFd kFd w0 blk off d (grow (wr.drewN nq) osq)):=S1.out.grown nq osq
   clear la lb hc S1
   generalize grow (wr.drewN nq) osq=w2 at S2 ⊢
   clear nq osq
   go_wp2_with fail
   go_roundg (r-(c+1))
   case measure=>omega
   case rel=>exact ⟨c+1,r,by go_num,rfl,by omega,by omega,hr0,by omega,fun _=>by rw [show nn-(c+1)=nn-1-c by omega];exact HL.out,HHI,S2⟩
  | true =>
   have ea:(((nn-1-c:Nat):Int)).toNat=nn-1-c:=by omega
   have pa:(0:Int)≤((nn-1-c:Nat):Int):=by omega
   have ba:((nn-1-c:Nat):Int)<(d.size:Int):=by omega
   have ec:((c:Int)).toNat=c:=by omega
   have pc:(0:Int)≤(c:Int):=by omega
   have bc:(c:Int)<(d.size:Int):=by omega
   have la:=S1.out.ld RR.out (by omega) Tryz.prog (nn-1-c) (by omega)
   have lb:=S1.out.ld RR.out (by omega) Tryz.prog (c) (by omega)
   have hv:=ltY_true hL
   have HL:=hid hL
   clear hL
   generalize d[nn-1-c]! = x at la hv
   generalize d[c]! = y at lb hv
   have hd:decide (cmpY x y<0)=true:=decide_eq_true hv
   have hc:=cmpY_in x y wr
   go_wp2_with fail
   go_quiet_grown (first|(go_at_fn 165;refine Calls.grown_of (hc _ _)))
   have S2:Aside (SWK encFd kFd w0 blk off d (grow (wr.drewN nq) osq)):=S1.out.grown nq osq
   clear la lb hc S1
   generalize grow (wr.drewN nq) osq=w2 at S2 ⊢
   clear nq osq
   go_wp2_with fail
   go_roundg (c-s)
   case measure=>omega
   case rel=>exact ⟨s,c,rfl,rfl,hs0,h1,by omega,by omega,HLO,fun _=>HL.out,S2⟩
 have hltz:¬ (s:Int)<(r:Int):=by omega
 obtain rfl:s=r:=by omega
 obtain ⟨e,he⟩:∃e,nn-s=e:=⟨_,rfl⟩
 have e7:IntKind.i64.wrap ((nn:Int)-(s:Int))=(e:Int):=by rw [IntKind.wrap_i64];omega
 have hge:m≤e:=by omega
 have heb:e≤b:=by omega
 have hsm:s≤m:=by omega
 have has:a≤s:=by omega
 have hds:s+(e-m)=mid:=by have:=HNN.out;omega
 have hlow:a<s→e<b→ltOf cmpY d[e]! d[s-1]! = false:=fun h1 h2=>by
  have:=HLO.out (by have:=HCASE.out;have:=HNN.out;omega)
  rw [he] at this;exact this
 have hhigh:s<m→m<e→ltOf cmpY d[e-1]! d[s]! = true:=fun h1 h2=>by
  have:=HHI.out (by have:=HCASE.out;have:=HNN.out;omega)
  rw [show nn-1-s=e-1 by omega] at this;exact this
 have HLOW:=hid hlow
 have HHIGH:=hid hhigh
 have ham:a<mid:=by omega
 have hmb2:mid<b:=by omega
 clear hlow hhigh HLO HHI hsr2 hkx hlt he k4 k5
 go_upto_region 39 with fail
 go_cut [185] from 178 to 185 (fun v wx=>wr=wx∧∃B:Bool,v=.bool B∧Hid (B=true↔(s<m∧m<e)))
 case first =>
  by_cases g1:s<m
  ·have g1z:(s:Int)<(m:Int):=by omega
   have g1d:decide ((s:Int)<(m:Int))=true:=decide_eq_true g1z
   by_cases g2:m<e
   ·have g2z:(m:Int)<(e:Int):=by omega
    have g2d:decide ((m:Int)<(e:Int))=true:=decide_eq_true g2z
    go_wp2_with fail
    go_meet
    case rel=>exact ⟨rfl,true,rfl,⟨fun _=>⟨g1,g2⟩,fun _=>rfl⟩⟩
   ·have g2z:¬ (m:Int)<(e:Int):=by omega
    have g2d:decide ((m:Int)<(e:Int))=false:=decide_eq_false g2z
    go_wp2_with fail
    go_meet
    case rel=>exact ⟨rfl,false,rfl,⟨fun h=>Bool.noConfusion h,fun h=>absurd h.2 g2⟩⟩
  ·have g1z:¬ (s:Int)<(m:Int):=by omega
   have g1d:decide ((s:Int)<(m:Int))=false:=decide_eq_false g1z
   go_wp2_with fail
   go_meet
   case rel=>exact ⟨rfl,false,rfl,⟨fun h=>Bool.noConfusion h,fun h=>absurd h.1 g1⟩⟩
 case rest =>
 obtain ⟨rfl,B,rfl,HB⟩:=hcut
 go_upto_if 185 with fail
 go_cut [] from 185 to 191 (fun wx=>∃d1,Aside (SWK encFd kFd w0 blk off d1 wx)∧d1.size=d.size∧Hid (Rot s m e d d1))
 case first =>
  cases B with
  | true =>
   have hc:=HB.out.1 rfl
   have hr:=rotate_y blk off cap s m e (.func (.func 165) #[] #[]) d0 d w0 wr RR.out hs S1.out hc.1 hc.2 (by omega) (by omega)
   have HRO:=hid hr
   clear hr S1 hc
   go_wp2_with (first|(go_at_call 368;refine HRO.out.mono ?_;rintro _ w1 ⟨rfl,d1,hs1,hr1⟩;have HS1:Aside _:=hs1;have HR1:=hid hr1;clear hs1 hr1))
   go_meet
   case rel=>exact ⟨d1,HS1,HR1.out.1,HR1⟩
  | false =>
   have hc:¬ (s<m∧m<e):=fun h=>Bool.noConfusion (HB.out.2 h)
   have hrot:Rot s m e d d:=by
    by_cases e1:s<m
    ·rw [show e=m by omega];exact rot_none _ _ _
    ·rw [show s=m by omega];exact rot_none' _ _ _
   have HRT:=hid hrot
   clear hrot hc
   go_wp2_with fail
   go_meet
   case rel=>exact ⟨d,S1,rfl,HRT⟩
 case rest =>
 clear S1
 obtain ⟨d1,S1,hz1,HRT⟩:=hcut
 have hcut2:=merge_cut (K:=Fd.key) swoY ltY_ne HRT.out has hsm hge heb hb hds HSL.out HSR.out HLOW.out HHIGH.out
 obtain ⟨t1,t2,t3,t4⟩:=hcut2
 have HT1:=hid t1
 have HT2:=hid t2
 have HT3:=hid t3
 have HT4:=hid t4
 clear t1 t2 t3 t4 HLOW HHIGH HRT
 go_upto_region 41 with fail
 go_cut [199] from 192 to 199 (fun v wx=>wc=wx∧∃B:Bool,v=.bool B∧Hid (B=true↔(a<s∧s<mid)))
 case first =>
  by_cases g1:a<s
  ·have g1z:(a:Int)<(s:Int):=by omega
   have g1d:decide ((a:Int)<(s:Int))=true:=decide_eq_true g1z
   by_cases g2:s<mid
   ·have g2z:(s:Int)<(mid:Int):=by omega
    have g2d:decide ((s:Int)<(mid:Int))=true:=decide_eq_true g2z
    go_wp2_with fail
    go_meet
    case rel=>exact ⟨rfl,true,rfl,⟨fun _=>⟨g1,g2⟩,fun _=>rfl⟩⟩
   ·have g2z:¬ (s:Int)<(mid:Int):=by omega
    have g2d:decide ((s:Int)<(mid:Int))=false:=decide_eq_false g2z
    go_wp2_with fail
    go_meet
    case rel=>exact ⟨rfl,false,rfl,⟨fun h=>Bool.noConfusion h,fun h=>absurd h.2 g2⟩⟩
  ·have g1z:¬ (a:Int)<(s:Int):=by omega
   have g1d:decide ((a:Int)<(s:Int))=false:=decide_eq_false g1z
   go_wp2_with fail
   go_meet
   case rel=>exact ⟨rfl,false,rfl,⟨fun h=>Bool.noConfusion h,fun h=>absurd h.1 g1⟩⟩
 case rest =>
 obtain ⟨rfl,B,rfl,HB⟩:=hcut
 go_upto_if 199 with fail
 go_cut [] from 199 to 205 (fun wx=>∃d2,Aside (SWK encFd kFd w0 blk off d2 wx)∧Hid (Mrg (ltOf cmpY) Fd.key a mid d1 d2))
 case first =>
  cases B with
  | true =>
   have hc:=HB.out.1 rfl
   have hr:=HIH.out a s mid hc.1 hc.2 (by omega) d1 wc (by omega) (by omega) S1.out HT1.out HT2.out
   rw [hz1] at hr
   have HRO:=hid hr
   clear hr S1 hc
   go_wp2_with (first|(go_at_call 323;refine HRO.out.mono ?_;rintro _ w1 ⟨rfl,d2,hs1,hr1⟩;have HS1:Aside _:=hs1;have HR1:=hid hr1;clear hs1 hr1))
   go_meet
   case rel=>exact ⟨d2,HS1,HR1⟩
  | false =>
   have hc:¬ (a<s∧s<mid):=fun h=>Bool.noConfusion (HB.out.2 h)
   have HRT:=hid (HT3.out hc)
   clear hc
   go_wp2_with fail
   go_meet
   case rel=>exact ⟨d1,S1,HRT⟩
 case rest =>
 clear S1
 obtain ⟨d2,S1,HM2⟩:=hcut
 obtain ⟨t1,t2,t3,t4⟩:=HT4.out d2 HM2.out
 have hz2:d2.size=d1.size:=HM2.out.1.1
 have HU1:=hid t1
 have HU2:=hid t2
 have HU3:=hid t3
 have HU4:=hid t4
 clear t1 t2 t3 t4 HT1 HT2 HT3 HT4 HM2
 go_upto_region 43 with fail
 go_cut [213] from 206 to 213 (fun v wx=>wc=wx∧∃B:Bool,v=.bool B∧Hid (B=true↔(mid<e∧e<b)))
 case first =>
  by_cases g1:mid<e
  ·have g1z:(mid:Int)<(e:Int):=by omega
   have g1d:decide ((mid:Int)<(e:Int))=true:=decide_eq_true g1z
   by_cases g2:e<b
   ·have g2z:(e:Int)<(b:Int):=by omega
    have g2d:decide ((e:Int)<(b:Int))=true:=decide_eq_true g2z
    go_wp2_with fail
    go_meet
    case rel=>exact ⟨rfl,true,rfl,⟨fun _=>⟨g1,g2⟩,fun _=>rfl⟩⟩
   ·have g2z:¬ (e:Int)<(b:Int):=by omega
    have g2d:decide ((e:Int)<(b:Int))=false:=decide_eq_false g2z
    go_wp2_with fail
    go_meet
    case rel=>exact ⟨rfl,false,rfl,⟨fun h=>Bool.noConfusion h,fun h=>absurd h.2 g2⟩⟩
  ·have g1z:¬ (mid:Int)<(e:Int):=by omega
   have g1d:decide ((mid:Int)<(e:Int))=false:=decide_eq_false g1z
   go_wp2_with fail
   go_meet
   case rel=>exact ⟨rfl,false,rfl,⟨fun h=>Bool.noConfusion h,fun h=>absurd h.1 g1⟩⟩
 case rest =>
 obtain ⟨rfl,B,rfl,HB⟩:=hcut
 cases B with
 | true =>
  have hc:=HB.out.1 rfl
  have hr:=HIH.out mid e b hc.1 hc.2 (by omega) d2 wc (by omega) (by omega) S1.out HU1.out HU2.out
  rw [hz2,hz1] at hr
  have HRO:=hid hr
  clear hr S1 hc
  go_wp2_with (first|(go_at_call 323;refine HRO.out.mono ?_;rintro _ w1 ⟨rfl,d3,hs1,hr1⟩;have HS1:Aside _:=hs1;have HR1:=hid hr1;clear hs1 hr1))
  go_end0
  exact ⟨rfl,d3,HS1.out,HU4.out d3 HR1.out⟩
 | false =>
  have hc:¬ (mid<e∧e<b):=fun h=>Bool.noConfusion (HB.out.2 h)
  have HRT:=hid (HU4.out d2 (HU3.out hc))
  clear hc
  go_wp2_with fail
  go_end0
  exact ⟨rfl,d2,S1.out,HRT.out⟩
theorem sym_y (blk off cap:Nat) (d0:Array Fd) (w0:World) (R:RowK encFd kFd w0 blk off d0) (hsz:d0.size<2305843009213693952):∀(n a m b:Nat),b-a≤n→a<m→m<b→SymIsY blk off cap d0 w0 a m b
 | 0,a,m,b,hn,h1,h2=>by omega
 | n+1,a,m,b,hn,h1,h2=>by
  by_cases c1:m=a+1
  ·intro d w hs hb S hL hR
   exact sym_left_y blk off cap a m b d0 d w0 w R hs S c1 h2 hb (by omega) hR
  ·by_cases c2:b=m+1
   ·intro d w hs hb S hL hR
    exact sym_right_y blk off cap a m b d0 d w0 w R hs S (by omega) c2 hb (by omega) hL
   ·exact sym_general_y blk off cap a m b d0 w0 R (by omega) (by omega) hsz (fun a' m' b' k1 k2 k3=>sym_y blk off cap d0 w0 R hsz n a' m' b' (by omega) k1 k2)
end
section
open Go.RowKit Go.Sort Go.Lib Go.Shelf
attribute [local go_sem ↓] size_fd
theorem ins_swk_y (blk off cap a b:Nat) (d0 dk:Array Fd) (w0 W:World) (R:RowK encFd kFd w0 blk off d0) (hs:d0.size=dk.size) (S:SWK encFd kFd w0 blk off dk W) (hab:a≤b) (hb:b≤dk.size) (hsz:dk.size<1152921504606846976) :
  Calls Tryz.prog 322 #[.slice (some ⟨blk,off,none⟩) dk.size cap,.int .i64 a,.int .i64 b,.func (.func 165) #[] #[]] W fun e w' =>
   e=.returned (.tuple #[])∧∃dl,SWK encFd kFd w0 blk off dl w'∧PermIn a b dk dl∧SortedIn (ltOf cmpY) a b dl∧Stab Fd.key dk dl:=by
 refine (ins_y blk off cap a b dk W (S.holds R.hblk R.hH hs.symm) (S.lt R.hblk) hab hb (by omega)).mono ?_
 rintro e w' ⟨rfl,n,os,rfl⟩
 obtain ⟨h1,h2⟩:=insertionSort_holds swoY dk a b hab hb
 exact ⟨rfl,_,S.on R.hblk n _ os h1.1,h1,h2,insertionSort_stab (K:=Fd.key) ltY_ne dk a b hb⟩
set_option maxHeartbeats 4000000 in
set_option maxRecDepth 1000000 in
theorem stable_y (blk off cap:Nat) (d:Array Fd) (w:World) (hH:HoldsK encFd kFd w blk off d) (hblk:blk<w.heap.size) (hsz:d.size<1152921504606846976) :
  Calls Tryz.prog 249 #[.slice (some ⟨blk,off,none⟩) d.size cap,.int .i64 d.size,.func (.func 165) #[] #[]] w fun e w'=>e=.returned (.tuple #[])∧SortsY w blk off d w':=by
 have RR:Aside (RowK encFd kFd w blk off d):=⟨fun _=>rfl,encFd_one,hH,hblk⟩
 have S0:Aside (SWK encFd kFd w blk off d w):=SWK.start hH
 clear hH hblk
 go_enter Tryz.func249,Tryz.ntmps249
 go_wp2_with fail
 go_loopg [7,8] d.size (fun kx va vb wr=>∃(A B q:Nat) (dk:Array Fd),va=.int .i64 A∧vb=.int .i64 B∧B=A+20∧Hid (A=q * 20)∧A≤d.size∧d.size-A≤kx∧Aside (Way Fd.key d dk)∧Aside (SegTo (ltOf cmpY) 20 q dk)∧Aside (SWK encFd kFd w blk off dk wr))
 case atStart=>exact ⟨0,20,0,d,rfl,rfl,rfl,(show Hid _ from by simp [Hid]),by omega,by omega,Way.refl _ _,segTo_zero _ _ _,S0⟩
 case round =>
 clear S0
 obtain ⟨A,B,q,dk,rfl,rfl,hB,HA,hAn,hkx,HW,HG,S1⟩:=hrel
 have hdk:dk.size=d.size:=HW.out.size
 by_cases hlt:B≤d.size
 ·have hltz:(B:Int)≤(d.size:Int):=by omega
  have hc:=ins_swk_y blk off cap A B d dk w wr RR.out hdk.symm S1.out (by omega) (by omega) (by omega)
  rw [hdk] at hc
  have HC:=hid hc
  have HB:=hid hB
  have hAB:A<B:=by omega
  clear hc S1 hB
  go_wp2_with (first|(go_at_call 322;refine HC.out.mono ?_;rintro e w1 ⟨rfl,dl,hs1,hp1,ho1,ht1⟩;have HS1:Aside _:=hs1;have HP1:=hid hp1;have HO1:=hid ho1;have HT1:=hid ht1;clear hs1 hp1 ho1 ht1))
  go_roundg (d.size-B)
  case measure=>omega
  case rel =>
   have hb:=HB.out
   have ha:=HA.out
   have hp:=HP1.out
   have ho:=HO1.out
   rw [hb,ha] at hp ho
   exact ⟨B,B+20,q+1,dl,by first|rfl|go_num,by first|rfl|go_num,rfl,(show Hid _ from by show B=_;omega),hlt,by omega,HW.out.step HP1.out hlt HT1.out,HG.out.step hp ho,HS1⟩
 have hltz:¬ (B:Int)≤(d.size:Int):=by omega
 have hc:=ins_swk_y blk off cap A d.size d dk w wr RR.out hdk.symm S1.out hAn (by omega) (by omega)
 rw [hdk] at hc
 have HC:=hid hc
 have hseg:∀dl,PermIn A d.size dk dl→SortedIn (ltOf cmpY) A d.size dl→SegFrom (ltOf cmpY) 20 0 d.size dl:=fun dl h1 h2=>by
  have ha:=HA.out
  refine HG.out.last (by omega) ?_ ?_
  ·rw [←ha];exact h1
  ·rw [←ha];exact h2
 have HSEG:=hid hseg
 clear hc S1 hseg hB hkx
 go_wp2_with (first|(go_at_call 322;refine HC.out.mono ?_;rintro e w1 ⟨rfl,dl,hs1,hp1,ho1,ht1⟩;have HS1:Aside _:=hs1;have HW1:Aside (Way Fd.key d dl):=HW.out.step hp1 (Nat.le_refl _) ht1;have HF1:Aside _:=HSEG.out dl hp1 ho1;clear hs1 hp1 ho1 ht1))
 clear HC HSEG HW HG HA hdk
 go_loopg [6] d.size (fun kx vc wr=>∃(c:Nat) (dk:Array Fd),vc=.int .i64 c∧0<c∧d.size-c≤kx∧Aside (Way Fd.key d dk)∧Aside (SegFrom (ltOf cmpY) c 0 d.size dk)∧Aside (SWK encFd kFd w blk off dk wr))
 case atStart=>exact ⟨20,dl,rfl,by omega,by omega,HW1,HF1,HS1⟩
 case round =>
 clear HW1 HF1 HS1
 obtain ⟨c,dk,rfl,hc0,hkx,HW,HF,S1⟩:=hrel
 by_cases hlt:c<d.size
 ·have hltz2:(c:Int)<(d.size:Int):=by omega
  go_wp2_with fail
  go_loopg [7,8] d.size (fun kx va vb wr=>∃(A B q:Nat) (dk:Array Fd),va=.int .i64 A∧vb=.int .i64 B∧B=A+2 * c∧Hid (A=q * (2 * c))∧A≤d.size∧d.size-A≤kx∧Aside (Way Fd.key d dk)∧Aside (SegTo (ltOf cmpY) (2 * c) q dk)∧Aside (SegFrom (ltOf cmpY) c A d.size dk)∧Aside (SWK encFd kFd w blk off dk wr))
  case atStart=>exact ⟨0,2 * c,0,dk,rfl,by first|rfl|go_num,by omega,(show Hid _ from by simp [Hid]),by omega,by omega,HW,segTo_zero _ _ _,HF,S1⟩
  case round =>
  clear HW HF S1
  obtain ⟨A,B,q,dm,rfl,rfl,hB,HA,hAn,hkx2,HW,HG,HF,S1⟩:=hrel
  have hdm:dm.size=d.size:=HW.out.size
  obtain ⟨M,hM⟩:∃M,A+c=M:=⟨_,rfl⟩
  have hMz:(A:Int)+(c:Int)=(M:Int):=by omega
  by_cases hlt3:B≤d.size
  ·have hltz3:(B:Int)≤(d.size:Int):=by omega
   have hc:=sym_y blk off cap d w RR.out (by omega) (B-A) A M B (Nat.le_refl _) (by omega) (by omega) dm wr hdm.symm (by omega) S1.out (by rw [←hM];exact HF.out.first (by omega)) (by rw [←hM];exact HF.out.second (by omega) hlt3)
   rw [hdm] at hc
   have HC:=hid hc
   have HB:=hid hB
   have hAB:A<B:=by omega
   have hBw:IntKind.i64.wrap ((B:Int)+2 * (c:Int))=(B:Int)+2 * (c:Int):=by rw [IntKind.wrap_i64];omega
   clear hc S1 hB hM
   go_wp2_with (first|(go_at_call 323;refine HC.out.mono ?_;rintro e w1 ⟨rfl,dl,hs1,hm1⟩;have HS1:Aside _:=hs1;have HM1:=hid hm1;clear hs1 hm1))
   go_roundg (d.size-B)
   case measure=>omega
   case rel =>
    obtain ⟨hp1,ho1,ht1⟩:=HM1.out
    have hb:=HB.out
    have ha:=HA.out
    have hp:=hp1
    have ho:=ho1
    have hp2:=hp1
    rw [hb] at hp2
    rw [hb,ha] at hp ho
    refine ⟨B,B+2 * c,q+1,dl,by first|rfl|go_num,by first|rfl|go_num,rfl,(show Hid _ from ?_),hlt3,by omega,HW.out.step hp1 hlt3 ht1,HG.out.step hp ho,?_,HS1⟩
    ·show B=(q+1) * (2 * c)
     rw [Nat.add_mul,Nat.one_mul,←ha];exact hb
    ·rw [hb];exact HF.out.step hp2
  have hltz3:¬ (B:Int)≤(d.size:Int):=by omega
  have hcw:IntKind.i64.wrap ((c:Int) * 2)=(c:Int) * 2:=by rw [IntKind.wrap_i64];omega
  have hseg:∀dl,PermIn A d.size dm dl→SortedIn (ltOf cmpY) A d.size dl→SegFrom (ltOf cmpY) (2 * c) 0 d.size dl:=fun dl h1 h2=>by
   have ha:=HA.out
   refine HG.out.last (by omega) ?_ ?_
   ·rw [←ha];exact h1
   ·rw [←ha];exact h2
  have HSEG:=hid hseg
  clear hseg
  by_cases hlt4:M<d.size
  ·have hltz4:(M:Int)<(d.size:Int):=by omega
   have hc:=sym_y blk off cap d w RR.out (by omega) (d.size-A) A M d.size (Nat.le_refl _) (by omega) hlt4 dm wr hdm.symm (by omega) S1.out (by rw [←hM];exact HF.out.first (by omega)) (by rw [←hM];exact HF.out.second (by omega) (Nat.le_refl _))
   rw [hdm] at hc
   have HC:=hid hc
   clear hc S1 hM hB
   go_wp2_with (first|(go_at_call 323;refine HC.out.mono ?_;rintro e w1 ⟨rfl,dl,hs1,hm1⟩;have HS1:Aside _:=hs1;have HM1:=hid hm1;clear hs1 hm1))
   go_roundg (d.size-2 * c)
   case measure=>omega
   case rel =>
    obtain ⟨hp1,ho1,ht1⟩:=HM1.out
    exact ⟨2 * c,dl,by first|rfl|go_num,by omega,by omega,HW.out.step hp1 (Nat.le_refl _) ht1,HSEG.out dl hp1 ho1,HS1⟩
  ·have hltz4:¬ (M:Int)<(d.size:Int):=by omega
   have HSO:=hid (HF.out.short (show d.size≤A+c by omega))
   clear hM hB
   go_wp2_with fail
   go_roundg (d.size-2 * c)
   case measure=>omega
   case rel=>exact ⟨2 * c,dm,by first|rfl|go_num,by omega,by omega,HW,HSEG.out dm (permIn_refl _ _ _) HSO.out,S1⟩
 ·have hltz2:¬ (c:Int)<(d.size:Int):=by omega
  go_wp2_with fail
  go_end0
  obtain ⟨n,os,hw⟩:=S1.out
  exact ⟨rfl,dk,n,os,HW.out.1,HF.out.short (by omega),HW.out.2,hw⟩
set_option maxHeartbeats 1000000 in
theorem sort_y (blk off cap:Nat) (d:Array Fd) (w:World) (hH:HoldsK encFd kFd w blk off d) (hblk:blk<w.heap.size) (hsz:d.size<1152921504606846976) :
  Calls Tryz.prog 164 #[.slice (some ⟨blk,off,none⟩) d.size cap,.func (.func 165) #[] #[]] w fun e w'=>e=.returned (.tuple #[])∧SortsY w blk off d w':=by
 have HI:=hid (stable_y blk off cap d w hH hblk hsz)
 clear hH
 go_enter Tryz.func164,Tryz.ntmps164
 go_wp2_with (first|(go_at_call 249;refine HI.out.mono ?_;rintro e w1 ⟨rfl,hs⟩))
 go_end0
 exact ⟨rfl,hs⟩
end
section
open Go.RowKit Go.Maps Go.Sort
theorem apart_perm {a b:List Fd} (h:ApartF a) (hp:a.Perm b):ApartF b :=
 (hp.pairwise_iff (fun hxy k hy hx=>hxy k hx hy)).1 h
theorem perm_of {d d':Array Fd} (hp:PermIn 0 d.size d d'):d'.size=d.size∧d.toList.Perm d'.toList:=by
 obtain ⟨h1,_,h3⟩:=hp
 have e1:(d'.extract 0 d.size).toList=d'.toList:=by rw [←h1];simp
 have e2:(d.extract 0 d.size).toList=d.toList:=by simp
 rw [e1,e2] at h3
 exact ⟨h1,h3.symm⟩
theorem filter_fnd (l:List Fd) (c:Ky):(l.map Fd.fnd).filter (fun y=>decide (y.1=c))=(l.filter fun x=>decide (x.key=c)).map Fd.fnd:=by
 rw [List.filter_map]
 rfl
theorem stabrow_any {W:World} {v:Value} {fs:List Fd} {w:World} (h:TlSt W.heap.size W v fs w) (hl:fs.length≤2400000000000) :
  Calls Tryz.prog 164 #[v,.func (.func 165) #[] #[]] w fun e w'=>e=.returned (.tuple #[])∧∃l:List Fd,TlSt W.heap.size W v l w'∧l.map Fd.fnd=sortP (fs.map Fd.fnd):=by
 rcases h.row.own.2 with ⟨rfl,hz⟩|⟨g,cap,cur,rfl,_⟩
 ·obtain rfl:=List.length_eq_zero_iff.1 hz
  refine (sort_none_y none 0 _ w).mono ?_
  rintro e w' ⟨rfl,rfl⟩
  exact ⟨rfl,[],h,rfl⟩
 ·have hge:=Kind.own_ge h.row.own
  have hH:HoldsK encFd kFd w g 0 fs.toArray:=Kind.own_holds h.row.own
  have:=sort_y g 0 cap fs.toArray w hH hge.2.1 (by simp;omega)
  simp only [List.size_toArray] at this
  refine this.mono ?_
  rintro e w' ⟨rfl,d',n,os,hp,hs,ht,rfl⟩
  obtain ⟨hsz,hperm⟩:=perm_of hp
  have hsz':d'.size=fs.length:=by simpa using hsz
  have fr:Fr (fun b=>b=g) w (sortWorldK encFd kFd w g 0 n d' os):=by
   have hb:=below_sortK encFd kFd (B:=g) (Below.refl _ w) (by have:=hge.2.1;omega) g 0 n d' os (Nat.le_refl _)
   refine ⟨hb.os,hb.tape,hb.output,hb.size,fun k hk hn=>?_⟩
   simp only [sortWorldK,Sort.grow,putRowK,putRow,mapBlock,Sort.ahead]
   rw [Array.getElem?_append_left (by simpa using hk),Array.getElem?_modify,if_neg (fun e=>hn e.symm)]
  have hmem:∀f,f∈d'.toList↔f∈fs:=fun f=>by
   have:=hperm.mem_iff (a:=f)
   simpa using this.symm
  refine ⟨rfl,d'.toList,⟨⟨Kind.own_sorted h.row.own d' hsz' n os,h.row.bel.trans (fr.below h.row.base fun k hk=>by rw [hk];exact hge.1),Nat.le_trans h.row.base fr.size⟩,fun f hf=>?_,apart_perm h.apart (by simpa using hperm)⟩,?_⟩
  ·have hv:=h.val f ((hmem f).1 hf)
   refine ⟨ownJ_fr hv.1 fr fun k hk e=>?_,hv.2⟩
   subst e
   exact fd_off h.row.own hv.1 k rfl hk
  ·refine sortP_is ?_ fun c=>?_
   ·refine List.pairwise_map.2 (List.pairwise_iff_getElem.2 fun i j hi hj hij=>?_)
    have hi':i<d'.size:=by simpa using hi
    have hj':j<d'.size:=by simpa using hj
    have:=hs i j (Nat.zero_le _) hij (by omega)
    rw [getElem!_pos d' i hi',getElem!_pos d' j hj',ltY] at this
    have hk:∀a b:Ky,ltOf Z.cmpK a b=ltKy a b:=fun a b=>by
     rw [Bool.eq_iff_iff]
     exact (decide_eq_true_iff).trans (z_lt a b)
    rw [hk] at this
    have e1:(d'.toList[i])=d'[i]:=by simp
    have e2:(d'.toList[j])=d'[j]:=by simp
    rw [e1,e2]
    exact this
   ·rw [filter_fnd,filter_fnd]
    have:=ht c
    simp only at this
    rw [this]
theorem TlSt.joined {W:World} {v1 v2 v3:Value} {fs1 fs2:List Fd} {w1 w2 w3:World} (h1:TlSt W.heap.size W v1 fs1 w1) (h2:TlSt w1.heap.size w1 v2 fs2 w2) (hrow:w3.ownsRow W.heap.size 110 7 v3 (fs1.length+fs2.length) (KFd.cells fs1++KFd.cells fs2)) (hg:w2.grownBy w3 v1.ownBlock):TlSt W.heap.size W v3 (fs1++fs2) w3:=by
 have hb12:Below w1.heap.size w1 w2:=h2.row.bel
 have h1':=h1.on hb12
 have hk:∀{B:Nat} u o,OwnJ B w2 u o→OwnJ B w3 u o:=fun u o hJ=>ownJ_fr hJ (Fr.of_grown (P:=fun k=>v1.ownBlock=some k) hg fun k hk=>hk) fun k hb hv=>fd_off h1'.row.own hJ k hv hb
 refine ⟨⟨?_,below_grown h1'.row.bel hg (fun k hk=>(World.ownsRow.lt h1'.row.own k hk).1) h1'.row.base,Nat.le_trans h1'.row.base hg.size⟩,fun f hf=>?_,List.pairwise_append.2 ⟨h1.apart,h2.apart,fun x hx y hy k hkx hky=>?_⟩⟩
 ·show w3.ownsRow W.heap.size 110 7 v3 (fs1++fs2).length (KFd.cells (fs1++fs2))
  rw [List.length_append,KFd.cells_append]
  exact hrow
 ·rcases List.mem_append.1 hf with hf|hf
  ·exact ⟨hk _ _ (h1'.val f hf).1,(h1'.val f hf).2⟩
  ·exact ⟨own_weakJ (hk _ _ (h2.val f hf).1) h1.row.base,(h2.val f hf).2⟩
 ·have e1:=(ownJ_blk (h1.val x hx).1 k hkx).2
  have e2:=(ownJ_blk (h2.val y hy).1 k hky).1
  omega
theorem over_is {L:List RowW} (h:OkW L) {fs:List Fnd} {typ:ByteArray} {mt:List Fld→Bool} {ks:List Ky} (hn:ks.Nodup) (hall:∀k,(getW L k).isSome=true→k∈ks):sortP (freeW L fs++ks.filterMap (hitK L typ mt))=overW L fs typ mt:=by
 unfold overW
 refine sortP_is (sortP_rise _) fun c=>?_
 rw [sortP_filter,List.filter_append,List.filter_append,hits_any h hn hall c]
set_option maxHeartbeats 4000000 in
set_option maxRecDepth 100000 in
theorem wover_gen {W:World} {r:Option Addr} {mp:Option Nat} {L:List RowW} (hok:OkW L) (h:SetAt W r mp L) (vf:Value) (fo:List Fd) (hfo:FoundIn W vf fo) (typ:ByteArray) (pa:Option Addr) (pc:Nat) (pt:List Tm) (hl:fo.length+L.length≤100000000)
  (htk:∀w1,Below W.heap.size W w1→Calls Tryz.prog 163 #[.pointer r,.string typ,.slice pa pt.length pc] w1 fun e w'=>TkPost w1 L typ (matchM pt) e w') :
  Calls Tryz.prog 97 #[.pointer r,vf,.string typ,.slice pa pt.length pc] W fun e w'=>FoPost W (overW L (fo.map Fd.fnd) typ (matchM pt)) e w':=by
 obtain ⟨i0,hi0,hz0,hz1,hz2⟩:=info_parts Tryz.infoFdS
 have HI0:=hid hi0
 have HSP:=hid (spared_any h vf fo hfo (by omega))
 have HTK:=hid htk
 have HOK:=hid hok
 obtain ⟨pf,cf,rfl⟩:∃p c,vf=.slice p fo.length c:=by obtain ⟨p,c,h1,_⟩:=hfo.is;exact ⟨p,c,h1⟩
 obtain ⟨mt,hmt⟩:∃mt,matchM pt=mt:=⟨_,rfl⟩
 rw [hmt] at HTK ⊢
 clear hi0 h hfo htk hok hmt
 go_enter Tryz.func97,Tryz.ntmps97
 go_wp2_with fail
 refine HSP.out.mono ?_
 rintro e w1 ⟨v1,fs1,rfl,ht1,hq1⟩
 obtain ⟨p1,c1,rfl⟩:=Kind.own_shape ht1.row.own
 have HTK1:=hid (HTK.out w1 ht1.row.bel)
 have HT1:=hid ht1
 have HQ1:=hid hq1
 clear ht1 hq1 HSP HTK
 go_wp2_with fail
 refine HTK1.out.mono ?_
 rintro e w2 ⟨v2,fs2,ks,rfl,ht2,hq2,hn,hall,hkl⟩
 obtain ⟨p2,c2,rfl⟩:=Kind.own_shape ht2.row.own
 have hlen1:fs1.length≤fo.length:=by
  have:=congrArg List.length HQ1.out
  rw [List.length_map] at this
  rw [this]
  have:=List.length_filter_le (fun f:Fnd=>(getW L f.1).isNone) (fo.map Fd.fnd)
  rw [List.length_map] at this
  exact this
 have hlen2:fs2.length≤L.length:=by
  have:=congrArg List.length hq2
  rw [List.length_map] at this
  rw [this]
  exact Nat.le_trans (List.length_filterMap_le _ _) hkl
 have hsrc:=Kind.src (K:=KFd) (w:=w2) (p:=p2) (d:=fs2) (by
  obtain ⟨p,c,he,h⟩:=Kind.own_is ht2.row.own
  injection he with e1 _ _
  subst e1
  exact h)
 have HROW:=hid (HT1.out.on ht2.row.bel).row.own
 have HBASE:=hid (HT1.out.on ht2.row.bel).row.base
 have HSRC:=hid hsrc
 have HJ:Hid (∀v3 w3,w3.ownsRow W.heap.size 110 7 v3 (fs1.length+fs2.length) (KFd.cells fs1++KFd.cells fs2)→w2.grownBy w3 (Value.slice p1 fs1.length c1).ownBlock→TlSt W.heap.size W v3 (fs1++fs2) w3):=fun v3 w3 hr hg=>HT1.out.joined ht2 hr hg
 have HEQ:Hid (sortP ((fs1++fs2).map Fd.fnd)=overW L (fo.map Fd.fnd) typ mt):=by
  show sortP _=_
  rw [List.map_append,HQ1.out,hq2]
  exact over_is HOK.out hn hall
 clear ht2 hq2 hn hall hkl hsrc HTK1 HT1 HQ1
 go_wp2_with (at_builtin;refine wpList_append_rows _ rfl _ _ 47 rfl W.heap.size 110 i0 _ 7 88 Tryz.underlying47 HI0.out hz0 hz1 hz2 rfl (by decide) _ fs1.length (KFd.cells fs1) rfl HROW.out p2 fs2.length c2 (KFd.cells fs2) rfl (KFd.cells_len fs2) HSRC.out (KFd.cells_ones _) (by unfold maxLen;omega) (by omega) HBASE.out ?_;intro v3 w3 hr3 hg3;have HT3:=hid (HJ.out v3 w3 hr3 hg3);clear hr3 hg3)
 obtain ⟨p3,c3,rfl⟩:=Kind.own_shape HT3.out.row.own
 have HSO:=hid (stabrow_any HT3.out (by rw [List.length_append];omega))
 go_wp2_with fail
 refine HSO.out.mono ?_
 rintro e w4 ⟨rfl,l,ht4,hq4⟩
 have HF:Hid (FoPost W (overW L (fo.map Fd.fnd) typ mt) (.returned (.slice p3 (fs1++fs2).length c3)) w4):=⟨_,l,rfl,ht4.row.own,ht4.val,ht4.apart,hq4.trans HEQ.out,ht4.row.bel⟩
 clear ht4 hq4 HSO
 go_wp2_with fail
 go_ret
 have hF:=HF.out
 rw [List.length_append] at hF
 exact hF
theorem wover_any {n0:Nat} {W:World} {B:Nat→Prop} {g:Nat} {L:List RowW} (h:PrgW n0 W B g L) (vf:Value) (fo:List Fd) (hfo:FoundIn W vf fo) (typ:ByteArray) (vp:Value) (pt:List Tm) (hp:KM.Is W vp pt) (hpf:FitM pt) (hl:fo.length+L.length≤100000000) :
  Calls Tryz.prog 97 #[.pointer (some ⟨g,0,none⟩),vf,.string typ,vp] W fun e w'=>FoPost W (overW L (fo.map Fd.fnd) typ (matchM pt)) e w':=by
 obtain ⟨m,F,O,h⟩:=h
 obtain ⟨pa,pc,rfl⟩:∃p c,vp=.slice p pt.length c:=by obtain ⟨p,c,h1,_⟩:=hp;exact ⟨p,c,h1⟩
 exact wover_gen h.ok (SetAt.of h) vf fo hfo typ pa pc pt hl fun w1 hb=>taken_any (h.on hb) typ pa pc pt (Kind.is_kept hp hb) hpf (by omega)
end
section
open Go.RowKit
theorem put_fd {w:World} {X:Nat} (hz:w.heap[X]? = some (.cells #[.string ⟨#[]⟩,.string ⟨#[]⟩,.int .i64 0,.int .u64 0,.int .i64 0,.bool false,.slice none 0 0] 110 (0,0))) (z:Fd) (WZ:World) (hWZ:(((((((w.setCell ⟨X,0,none⟩ (.string z.a)).setCell ⟨X,1,none⟩ (.string z.b)).setCell ⟨X,2,none⟩ (.int .i64 z.v.num)).setCell ⟨X,3,none⟩ (.int .u64 z.v.stamp)).setCell ⟨X,4,none⟩ (.int .i64 z.v.tick)).setCell ⟨X,5,none⟩ (.bool z.v.live)).setCell ⟨X,6,none⟩ (.slice z.v.p z.v.o.length z.v.cap))=WZ) :
  WZ.heap[X]? = some (.cells #[.string z.a,.string z.b,.int .i64 z.v.num,.int .u64 z.v.stamp,.int .i64 z.v.tick,.bool z.v.live,.slice z.v.p z.v.o.length z.v.cap] 110 (0,0))∧Fr (fun b=>b=X) w WZ:=by
 rw [←hWZ]
 exact ⟨heap_setCell_same _ X 6 _ _ _ (heap_setCell_same _ X 5 _ _ _ (heap_setCell_same _ X 4 _ _ _ (heap_setCell_same _ X 3 _ _ _ (heap_setCell_same _ X 2 _ _ _ (heap_setCell_same _ X 1 _ _ _ (heap_setCell_same _ X 0 _ _ _ (hz))))))),((((((fr_set5 w X 0 _).then (fr_set5 _ X 1 _) fun k hk=>Or.inl hk).then (fr_set5 _ X 2 _) fun k hk=>Or.inl hk).then (fr_set5 _ X 3 _) fun k hk=>Or.inl hk).then (fr_set5 _ X 4 _) fun k hk=>Or.inl hk).then (fr_set5 _ X 5 _) fun k hk=>Or.inl hk).then (fr_set5 _ X 6 _) fun k hk=>Or.inl hk⟩
def NumbPost (W:World) (f:Fd) (is:Option Vr) (e:Ending) (w':World):Prop:=∃z:Vx,e=.returned (.agg (encFd ⟨f.a,f.b,z⟩).toArray)∧z.ver=is.getD zeroV∧OwnJ W.heap.size w' z.sl z.o∧Below W.heap.size W w'
set_option linter.unusedSimpArgs false in
set_option maxHeartbeats 8000000 in
set_option maxRecDepth 100000 in
theorem xnumbered_any {n0 n:Nat} {D:List RowD} {W:World} {g:Nat} {snap id:Int} {h gw:Nat} {ks rs:Value} {hd hs hc hq ht:Nat} {vers:Int} {B:Nat→Prop} {L:List RowW} (x:XAt W g snap id h gw ks rs hd hs hc hq ht vers) (hD:DirS n0 hd n D W) (hn:n≤2400000000000) (hw:PrgW n0 W B gw L) (en:Bool) (mk:Mk) (f:Fd) (hk:FitK (f.a,f.b)) :
  Calls Tryz.prog 100 #[.pointer (some ⟨g,0,none⟩),.agg (encFd f).toArray] W fun e w'=>NumbPost W f (isS D ⟨snap,en,mk,L⟩ (f.a,f.b)) e w':=by
 obtain ⟨hb0,h1,h2,hsz⟩:=two_boxes5 W (encFd f).toArray #[.string ⟨#[]⟩,.string ⟨#[]⟩,.int .i64 0,.int .u64 0,.int .i64 0,.bool false,.slice none 0 0] 110 110
 obtain ⟨V,hV⟩:∃V,(W.alloc (.cells (encFd f).toArray 110)).alloc (.cells #[.string ⟨#[]⟩,.string ⟨#[]⟩,.int .i64 0,.int .u64 0,.int .i64 0,.bool false,.slice none 0 0] 110)=V:=⟨_,rfl⟩
 obtain ⟨Q,hQ⟩:∃Q,W.heap.size=Q:=⟨_,rfl⟩
 rw [hV] at hb0 h1 h2 hsz
 rw [hQ] at h1 h2 hsz
 have HV:=hid hb0
 have HSZ:Hid (V.heap.size=Q+2):=hsz
 have HQQ:Hid (W.heap.size=Q):=hQ
 have HH1:=hid h1
 have HH2:=hid h2
 have HNW:=hid (xnow_any (x.on hb0) (hD.on hb0) hn (B:=B) (by obtain ⟨m,F,O,hu⟩:=hw;exact ⟨m,F,O,hu.on hb0⟩) en mk (f.a,f.b) hk)
 obtain ⟨is,his⟩:∃is,isS D ⟨snap,en,mk,L⟩ (f.a,f.b)=is:=⟨_,rfl⟩
 rw [his] at HNW ⊢
 obtain ⟨fa,fb,⟨fn,fq,ft,fl,fp,fc,fx⟩⟩:=f
 simp only [encFd,encVx,Vx.sl] at *
 have a0:V.cell? ⟨Q,0,none⟩=some (.string fa):=cz h1
 have a1:V.cell? ⟨Q,1,none⟩=some (.string fb):=cz h1
 clear x hD hk h1 h2 hb0 hsz his hw hn
 go_enter Tryz.func100,Tryz.ntmps100
 go_upto_region 1 with fail
 try rw [hV]
 try rw [hQ]
 go_wp2_with fail
 refine HNW.out.mono ?_
 rintro e1 w1 ⟨y,rfl,hv,hj,hb1⟩
 obtain ⟨X,hX⟩:∃X,w1.heap.size=X:=⟨_,rfl⟩
 obtain ⟨W2,hW2⟩:∃W2,w1.alloc (.cells #[.int .i64 0,.int .u64 0,.int .i64 0,.bool false,.slice none 0 0] 46)=W2:=⟨_,rfl⟩
 have hx2:W2.heap[X]? = some (.cells #[.int .i64 0,.int .u64 0,.int .i64 0,.bool false,.slice none 0 0] 46 (0,0)):=by rw [←hW2,←hX];exact heap_alloc_new w1 _
 have hal:Below w1.heap.size w1 W2:=by rw [←hW2];exact (Below.refl _ _).alloc (Nat.le_refl _) _
 have HVV:=hid hv
 clear hv HNW a0 a1
 obtain ⟨yn,ys,yt,yl,yp,yc,yo⟩:=y
 simp only [encVx,Vx.sl] at *
 obtain ⟨W3,hW3⟩:∃W3,(((((W2.setCell ⟨X,0,none⟩ (.int .i64 yn)).setCell ⟨X,1,none⟩ (.int .u64 ys)).setCell ⟨X,2,none⟩ (.int .i64 yt)).setCell ⟨X,3,none⟩ (.bool yl)).setCell ⟨X,4,none⟩ (.slice yp yo.length yc))=W3:=⟨_,rfl⟩
 obtain ⟨hbx,fx3⟩:=put_ver hx2 ⟨yn,ys,yt,yl,yp,yc,yo⟩ W3 hW3
 have y0:W2.cell? ⟨X,0,none⟩=some (.int .i64 0):=cz hx2
 have z0:=Lib.frozen_of_heap hx2 0
 have y1:W2.cell? ⟨X,1,none⟩=some (.int .u64 0):=cz hx2
 have z1:=Lib.frozen_of_heap hx2 1
 have y2:W2.cell? ⟨X,2,none⟩=some (.int .i64 0):=cz hx2
 have z2:=Lib.frozen_of_heap hx2 2
 have y3:W2.cell? ⟨X,3,none⟩=some (.bool false):=cz hx2
 have z3:=Lib.frozen_of_heap hx2 3
 have y4:W2.cell? ⟨X,4,none⟩=some (.slice none 0 0):=cz hx2
 have z4:=Lib.frozen_of_heap hx2 4
 have hb13:Below w1.heap.size w1 W3:=hal.trans (fx3.below hal.size fun k hk=>by omega)
 have hbV3:Below V.heap.size V W3:=bel_then hb1 hb1.size hb13
 have HJ3:Hid (OwnJ V.heap.size W3 (.slice yp yo.length yc) yo):=ownJ_fr (P:=fun _=>False) hj (Fr.of_below hb13) fun _ _ f=>f
 have HB3:=hid hbV3
 have HX3:=hid hbx
 have hq1:W3.heap[Q]? = some (.cells #[.string fa,.string fb,.int .i64 fn,.int .u64 fq,.int .i64 ft,.bool fl,.slice fp fx.length fc] 110 (0,0)):=(hbV3.block Q (by have:=HSZ.out;omega)).trans HH1.out
 have hz:W3.heap[Q+1]? = some (.cells #[.string ⟨#[]⟩,.string ⟨#[]⟩,.int .i64 0,.int .u64 0,.int .i64 0,.bool false,.slice none 0 0] 110 (0,0)):=(hbV3.block (Q+1) (by have:=HSZ.out;omega)).trans HH2.out
 clear hbx fx3 hal hb13 hbV3 hj hb1 hx2
 go_upto_region 2 with fail
 try rw [hX]
 try rw [hW2]
 try rw [hW3]
 clear y0 y1 y2 y3 y4 z0 z1 z2 z3 z4 hX hW2 hW3
 have k0:W3.cell? ⟨Q,0,none⟩=some (.string fa):=cz hq1
 have k1:W3.cell? ⟨Q,1,none⟩=some (.string fb):=cz hq1
 have hx3:=HX3.out
 have d0:W3.cell? ⟨X,0,none⟩=some (.int .i64 yn):=cz hx3
 have d1:W3.cell? ⟨X,1,none⟩=some (.int .u64 ys):=cz hx3
 have d2:W3.cell? ⟨X,2,none⟩=some (.int .i64 yt):=cz hx3
 have d3:W3.cell? ⟨X,3,none⟩=some (.bool yl):=cz hx3
 have d4:W3.cell? ⟨X,4,none⟩=some (.slice yp yo.length yc):=cz hx3
 have y0:W3.cell? ⟨Q+1,0,none⟩=some (.string ⟨#[]⟩):=cz hz
 have z0:=Lib.frozen_of_heap hz 0
 have y1:W3.cell? ⟨Q+1,1,none⟩=some (.string ⟨#[]⟩):=cz hz
 have z1:=Lib.frozen_of_heap hz 1
 have y2:W3.cell? ⟨Q+1,2,none⟩=some (.int .i64 0):=cz hz
 have z2:=Lib.frozen_of_heap hz 2
 have y3:W3.cell? ⟨Q+1,3,none⟩=some (.int .u64 0):=cz hz
 have z3:=Lib.frozen_of_heap hz 3
 have y4:W3.cell? ⟨Q+1,4,none⟩=some (.int .i64 0):=cz hz
 have z4:=Lib.frozen_of_heap hz 4
 have y5:W3.cell? ⟨Q+1,5,none⟩=some (.bool false):=cz hz
 have z5:=Lib.frozen_of_heap hz 5
 have y6:W3.cell? ⟨Q+1,6,none⟩=some (.slice none 0 0):=cz hz
 have z6:=Lib.frozen_of_heap hz 6
 obtain ⟨WZ,hWZ⟩:∃WZ,(((((((W3.setCell ⟨Q+1,0,none⟩ (.string fa)).setCell ⟨Q+1,1,none⟩ (.string fb)).setCell ⟨Q+1,2,none⟩ (.int .i64 yn)).setCell ⟨Q+1,3,none⟩ (.int .u64 ys)).setCell ⟨Q+1,4,none⟩ (.int .i64 yt)).setCell ⟨Q+1,5,none⟩ (.bool yl)).setCell ⟨Q+1,6,none⟩ (.slice yp yo.length yc))=WZ:=⟨_,rfl⟩
 obtain ⟨hbz,fz⟩:=put_fd hz ⟨fa,fb,⟨yn,ys,yt,yl,yp,yc,yo⟩⟩ WZ hWZ
 have g0:WZ.cell? ⟨Q+1,0,none⟩=some (.string fa):=cz hbz
 have g1:WZ.cell? ⟨Q+1,1,none⟩=some (.string fb):=cz hbz
 have g2:WZ.cell? ⟨Q+1,2,none⟩=some (.int .i64 yn):=cz hbz
 have g3:WZ.cell? ⟨Q+1,3,none⟩=some (.int .u64 ys):=cz hbz
 have g4:WZ.cell? ⟨Q+1,4,none⟩=some (.int .i64 yt):=cz hbz
 have g5:WZ.cell? ⟨Q+1,5,none⟩=some (.bool yl):=cz hbz
 have g6:WZ.cell? ⟨Q+1,6,none⟩=some (.slice yp yo.length yc):=cz hbz
 have HFIN:Hid (NumbPost W ⟨fa,fb,⟨fn,fq,ft,fl,fp,fc,fx⟩⟩ is (.returned (.agg #[.string fa,.string fb,.int .i64 yn,.int .u64 ys,.int .i64 yt,.bool yl,.slice yp yo.length yc])) WZ):=by
  have q:Below W.heap.size W W3:=bel_then HV.out HV.out.size HB3.out
  have e1:=HSZ.out
  have e2:=HQQ.out
  exact ⟨⟨yn,ys,yt,yl,yp,yc,yo⟩,rfl,HVV.out,own_weakJ (ownJ_fr HJ3.out fz fun k hk e=>by have:=(ownJ_blk HJ3.out k hk).1;omega) HV.out.size,q.trans (fz.below q.size fun k hk=>by omega)⟩
 clear hbz fz hz hx3 hq1 HX3 HJ3 HVV HH1 HH2
 go_wp2_with fail
 try rw [hWZ]
 exact bodyPost_ret (v:=.agg #[.string fa,.string fb,.int .i64 yn,.int .u64 ys,.int .i64 yt,.bool yl,.slice yp yo.length yc]) (by simp [results,Tryz.results100,go_sem,g0,g1,g2,g3,g4,g5,g6]) rfl HFIN.out
set_option linter.unusedSimpArgs false in
set_option maxHeartbeats 4000000 in
set_option maxRecDepth 100000 in
theorem xeachF_any {W : World} {g : Nat} (I : Ky → Option Vr) (v : Value) (fo : List Fd) (hv : KFd.Is W v fo) (hl : fo.length ≤ 200000000) (hm : ∀ f ∈ fo, mayB (((I (f.a, f.b)).getD zeroV).val) = true)
    (hk : ∀ w', Below W.heap.size W w' → ∀ f ∈ fo, Calls Tryz.prog 100 #[.pointer (some ⟨g, 0, none⟩), .agg (encFd f).toArray] w' fun e w2 => NumbPost w' f (I (f.a, f.b)) e w2) :
    Calls Tryz.prog 99 #[v, .func (.func 100) #[.pointer (some ⟨g, 0, none⟩)] #[]] W fun e w' => FoPost W ((fo.map Fd.fnd).map fun f => (f.1, (I f.1).getD zeroV)) e w' := by
  obtain ⟨i0, hi0, hz0, hz1, hz2⟩ := info_parts Tryz.infoFdS
  have HI0 := hid hi0
  obtain ⟨LL, hLL⟩ : ∃ LL, ((fo.map Fd.fnd).map fun f => (f.1, (I f.1).getD zeroV)) = LL := ⟨_, rfl⟩
  rw [hLL]
  have HLL := hid hLL
  clear hLL
  obtain ⟨pf, cf, rfl, hat⟩ := hv
  have HAT := hid hat
  have HK := hid hk
  have HM := hid hm
  have HST0 : Hid (TlSt W.heap.size W (.slice none 0 0) [] W ∧ ([] : List Fd).map Fd.fnd = LL.take 0) := ⟨TlSt.nil (Below.refl _ _) (Nat.le_refl _), rfl⟩
  clear hi0 hat hk hm
  go_enter Tryz.func99, Tryz.ntmps99
  go_wp2_with fail
  go_loopg [5, 10] fo.length (fun gg v5 vi wr => ∃ (i : Nat) (p : Option Addr) (c : Nat) (L : List Fd), vi = .int .i64 i ∧ v5 = .slice p L.length c ∧ i ≤ fo.length ∧ fo.length - i ≤ gg ∧ L.length ≤ i ∧ Hid (TlSt W.heap.size W (.slice p L.length c) L wr ∧ L.map Fd.fnd = LL.take i))
  case atStart => exact ⟨0, none, 0, [], rfl, rfl, by omega, by omega, by simp, HST0.out⟩
  case round =>
    clear HST0
    obtain ⟨i, p, c, L, rfl, rfl, hi, hgk, hLi, HI⟩ := hrel
    by_cases hlt : i < fo.length
    · have hltz : (i : Int) < (fo.length : Int) := by omega
      have hiz : (0 : Int) ≤ i := by omega
      have hbw : Below W.heap.size W wr := HI.out.1.row.bel
      obtain ⟨b1, o1, rfl, k1⟩ : ∃ b off, pf = some ⟨b, off, none⟩ ∧ KFd.At W b off fo := by
        rcases HAT.out with h | h
        · rw [h] at hlt; simp at hlt
        · exact h
      obtain ⟨y0, y1, y2, y3, y4, y5, y6⟩ := kfd_at (Kind.at_kept k1 hbw) i hlt
      have htk : LL.take (i + 1) = LL.take i ++ [(((fo[i]).a, (fo[i]).b), (I ((fo[i]).a, (fo[i]).b)).getD zeroV)] := by
        rw [← HLL.out, List.take_succ_eq_append_getElem (by rw [List.length_map, List.length_map]; exact hlt), List.getElem_map, List.getElem_map]
        rfl
      have HTK := hid htk
      have HMEM := hid (List.getElem_mem hlt)
      have HMF := hid (HM.out _ (List.getElem_mem hlt))
      clear htk k1
      generalize fo[i] = f at *
      obtain ⟨V, hV⟩ : ∃ V, wr.alloc (.cells (encFd f).toArray 110) = V := ⟨_, rfl⟩
      obtain ⟨O, hO⟩ : ∃ O, wr.heap.size = O := ⟨_, rfl⟩
      have hbV : Below wr.heap.size wr V := by rw [← hV]; exact (Below.refl _ _).alloc (Nat.le_refl _) _
      have hVo : V.heap[O]? = some (.cells (encFd f).toArray 110 (0, 0)) := by rw [← hV, ← hO]; exact heap_alloc_new wr _
      have HKC := hid (HK.out V (bel_then hbw hbw.size hbV) f HMEM.out)
      have HBV := hid hbV
      obtain ⟨IF, hIF⟩ : ∃ IF, I (f.a, f.b) = IF := ⟨_, rfl⟩
      rw [hIF] at HKC HTK HMF
      obtain ⟨fa, fb, ⟨fn, fq, ft, fl, fp, fc, fx⟩⟩ := f
      simp only [encFd, encVx, Vx.sl, CellsF, CellsV, Nat.zero_add] at *
      have t0 : V.cell? ⟨O, 0, none⟩ = some (.string fa) := cz hVo
      have t1 : V.cell? ⟨O, 1, none⟩ = some (.string fb) := cz hVo
      have t2 : V.cell? ⟨O, 2, none⟩ = some (.int .i64 fn) := cz hVo
      have t3 : V.cell? ⟨O, 3, none⟩ = some (.int .u64 fq) := cz hVo
      have t4 : V.cell? ⟨O, 4, none⟩ = some (.int .i64 ft) := cz hVo
      have t5 : V.cell? ⟨O, 5, none⟩ = some (.bool fl) := cz hVo
      have t6 : V.cell? ⟨O, 6, none⟩ = some (.slice fp fx.length fc) := cz hVo
      clear hbw hbV hVo hIF HMEM
      go_upto_region 5 with fail
      try rw [hO]
      try rw [hV]
      clear y0 y1 y2 y3 y4 y5 y6 hV
      go_wp2_with fail
      refine HKC.out.mono ?_
      rintro e2 w2 ⟨z, rfl, hzv, hzo, hb2⟩
      have hb2' : Below wr.heap.size wr w2 := bel_then HBV.out HBV.out.size hb2
      obtain ⟨B, hB⟩ : ∃ B, w2.heap.size = B := ⟨_, rfl⟩
      obtain ⟨W3, hW3⟩ : ∃ W3, w2.alloc (.cells (encFd ⟨fa, fb, z⟩).toArray 110) = W3 := ⟨_, rfl⟩
      have hb3 : Below w2.heap.size w2 W3 := by rw [← hW3]; exact (Below.refl _ _).alloc (Nat.le_refl _) _
      have HBX : Hid (W3.heap[B]? = some (.cells (KFd.enc ⟨fa, fb, z⟩).toArray 110 (0, 0))) := by
        show _ = _
        rw [← hW3, ← hB]
        exact heap_alloc_new w2 _
      have h3 : Below wr.heap.size wr W3 := bel_then hb2' hb2'.size hb3
      have HRW := hid (HI.out.1.on h3).row
      have hzf : FitX z.o := (may_fit (by rw [show z.o.map Fx.fld = (IF.getD zeroV).val from congrArg Vr.val hzv]; exact HMF.out)).1
      have HNX : Hid (∀ (g' c' : Nat) (w4 : World), RowSt KFd W.heap.size W (.slice (some ⟨g', 0, none⟩) (L.length + 1) c') (L ++ [⟨fa, fb, z⟩]) w4 → W3.grownBy w4 (Value.slice p L.length c).ownBlock → TlSt W.heap.size W (.slice (some ⟨g', 0, none⟩) (L.length + 1) c') (L ++ [⟨fa, fb, z⟩]) w4 ∧ (L ++ [(⟨fa, fb, z⟩ : Fd)]).map Fd.fnd = LL.take (i + 1)) := fun g' c' w4 r1 r2 => by
        refine ⟨HI.out.1.push h3 ⟨fa, fb, z⟩ (hzo.on hb3) HBV.out.size hzf r1 r2, ?_⟩
        rw [List.map_append, HI.out.2, HTK.out, ← hzv]
        rfl
      clear hzo hb2 hb2' hb3 h3 HKC hzf t0 t1 t2 t3 t4 t5 t6
      obtain ⟨zn, zs, zt, zl, zp, zc, zo⟩ := z
      simp only [encFd, encVx, Vx.sl] at *
      go_wp2_with (first
        | (at_builtin
           (try rw [hB]); (try rw [hW3])
           refine wpList_push KFd rfl _ _ 47 rfl i0 _ 88 Tryz.underlying47 HI0.out hz0 hz1 hz2 rfl W.heap.size W (.slice p L.length c) L rfl HRW.out ⟨fa, fb, ⟨zn, zs, zt, zl, zp, zc, zo⟩⟩ B 1 1 rfl rfl _ _ HBX.out (by unfold maxLen; omega) (by omega) ?_
           intro g3 c3 w3 r1 r2 r3
           have HN3 := hid (HNX.out g3 c3 w3 r1 r2)
           clear r1 r2 r3)
        | fail)
      have hln : (L ++ [(⟨fa, fb, ⟨zn, zs, zt, zl, zp, zc, zo⟩⟩ : Fd)]).length = L.length + 1 := by simp
      go_roundg (fo.length - (i + 1))
      case measure => omega
      exact ⟨i + 1, some ⟨g3, 0, none⟩, c3, L ++ [(⟨fa, fb, ⟨zn, zs, zt, zl, zp, zc, zo⟩⟩ : Fd)], by go_num, by rw [hln], by omega, by omega, by rw [hln]; omega, by rw [hln]; exact HN3.out⟩
    · have hltz : ¬ (i : Int) < (fo.length : Int) := by omega
      have HFIN : Hid (FoPost W LL (.returned (.slice p L.length c)) wr) := by
        have e : LL.take i = LL := List.take_of_length_le (by rw [← HLL.out, List.length_map, List.length_map]; omega)
        exact ⟨_, L, rfl, HI.out.1.row.own, HI.out.1.val, HI.out.1.apart, by rw [HI.out.2, e], HI.out.1.row.bel⟩
      clear HI
      go_wp2_with fail
      go_ret
      exact HFIN.out
end
section
open Go.RowKit
theorem over_key {S:Sv} (h:OkS S) {L:List RowW} (hL:OkW L) {typ:ByteArray} {t:Int} {P:List Fld→Bool} {f:Fnd} (hf:f∈overW L (scanD S.D typ t P) typ P):keyB f.1.1 f.1.2=true:=by
 unfold overW freeW at hf
 rw [sortP_mem,List.mem_append] at hf
 rcases hf with hf|hf
 ·have h1:=(List.mem_filter.1 (List.mem_filter.1 hf).1).1
  refine h.key f.1 fun e=>?_
  have:=((mem_walkD h.dir).1 h1).1
  rw [e] at this
  cases this
 ·obtain ⟨v,q,_⟩:=hitsW_mem hf
  exact hL.key _ q
theorem scan_key {S:Sv} (h:OkS S) {typ:ByteArray} {t:Int} {P:List Fld→Bool} {f:Fnd} (hf:f∈scanD S.D typ t P):keyB f.1.1 f.1.2=true:=by
 have h1:=(List.mem_filter.1 hf).1
 refine h.key f.1 fun e=>?_
 have:=((mem_walkD h.dir).1 h1).1
 rw [e] at this
 cases this
theorem km_turn {w w':World} {v:Value} {d:List Tm} {g:Nat} (h:KM.Is w v d) (hg:∀j s,w.cell? ⟨g,j,none⟩≠some (.string s)) (hk:∀k,k<w.heap.size→k≠g→w'.heap[k]? = w.heap[k]?):KM.Is w' v d:=by
 obtain ⟨p,cap,rfl,h⟩:=h
 refine ⟨p,cap,rfl,?_⟩
 rcases h with h|⟨b,off,hp,h⟩
 ·exact Or.inl h
 ·by_cases h0:0<d.length
  ·refine Or.inr ⟨b,off,hp,fun i hi j u hu=>?_⟩
   have hb:=cell_block (h i hi j u hu)
   have hn:b≠g:=fun e=>by
    rw [e] at h
    exact hg _ _ (h 0 h0 0 (.string (d[0]).1) rfl)
   have he:=hk b hb hn
   exact (World.cell?_of_block he).trans (h i hi j u hu)
  ·exact Or.inl (List.eq_nil_of_length_eq_zero (by omega))
theorem txn_plain {W:World} {g:Nat} {snap id:Int} {h gw:Nat} {ks rs:Value} {hd hs hc hq ht:Nat} {vers:Int} (x:XAt W g snap id h gw ks rs hd hs hc hq ht vers) (hks:∃p n c,ks=.slice p n c) (hrs:∃p n c,rs=.slice p n c):∀j s,W.cell? ⟨g,j,none⟩≠some (.string s):=by
 intro j s e
 obtain ⟨p1,n1,c1,rfl⟩:=hks
 obtain ⟨p2,n2,c2,rfl⟩:=hrs
 rw [Lib.cell_of_heap x.x] at e
 match j,e with
 | 0,e=>cases e
 | 1,e=>cases e
 | 2,e=>cases e
 | 3,e=>cases e
 | 4,e=>cases e
 | 5,e=>cases e
 | n+6,e=>cases e
set_option linter.unusedSimpArgs false in
set_option maxHeartbeats 1500000 in
set_option maxRecDepth 100000 in
theorem xscan_any {n0 nr:Nat} {W:World} {s:Ps} {c:Nat→Nat} (x:PrgB n0 W s c) (f:FitS nr s) (hn:nr≤90000000) {i:Nat} {y:Px} (hy:s.xs[i]? = some y) (typ:ByteArray) (pa:Option Addr) (pc:Nat) (pt:List Tm) (hp:KM.Is W (.slice pa pt.length pc) pt) (hpf:FitM pt) :
  Calls Tryz.prog 32 #[.pointer (some ⟨y.g,0,none⟩),.string typ,.slice pa pt.length pc] W fun e w'=>XsF n0 (nr+1) W s.h (s.xs.map Px.g) c (scansS s.D y.tx typ pt).1 (setS s.sv i (scansS s.D y.tx typ pt).2) e w':=by
 have hms:matchM (sortM pt)=matchM pt:=funext fun v=>match_sort pt v
 have HX:=hid x
 have HF:=hid f
 have HY:=hid hy
 have HN:=hid hn
 have HPI:Hid (∀W',Below W.heap.size W W'→KM.Is W' (.slice pa pt.length pc) pt):=fun W' q=>Kind.is_kept hp q
 have HPF:=hid hpf
 have HRE:=hid (xunfit_any (x.endis hy) _ pt hp hpf)
 obtain ⟨RS,hRS⟩:∃RS,scansS s.D y.tx typ pt=RS:=⟨_,rfl⟩
 rw [hRS]
 have HRS:=hid hRS
 clear x f hn hRS hp hpf
 have HCN:Hid (unfS y.ended pt≠0→RS=(([],unfS y.ended pt),y.tx)):=fun h=>by
  rw [←HRS.out]
  unfold scansS unfS at *
  by_cases he:y.ended=true
  ·rw [if_pos (show y.tx.ended=true from he),if_pos he]
  ·rw [if_neg he] at h
   rw [if_neg (show ¬ y.tx.ended=true from he),if_pos h,if_neg he]
 have HC0:Hid (unfS y.ended pt=0→y.ended=false∧mayM pt=0∧RS=((scanS s.D y.tx typ (matchM pt),0),tagR y.tx typ (sortM pt))):=fun h=>by
  rw [←HRS.out]
  unfold scansS
  unfold unfS at h
  by_cases he:y.ended=true
  ·rw [if_pos he] at h;cases h
  ·rw [if_neg he] at h
   rw [if_neg (show ¬ y.tx.ended=true from he),if_neg (show ¬ mayM pt≠0 from fun q=>q h),hms]
   exact ⟨by simpa using he,h,rfl⟩
 obtain ⟨g,hg⟩:∃g,y.g=g:=⟨_,rfl⟩
 rw [hg] at HRE ⊢
 clear hy hms
 obtain ⟨cd,hcd⟩:∃cd,unfS y.ended pt=cd:=⟨_,rfl⟩
 rw [hcd] at HRE HCN HC0
 clear hcd
 by_cases hc0:cd=0
 ·subst hc0
  obtain ⟨hen,hmay,hrs⟩:=HC0.out rfl
  have HRR:=hid hrs
  have HEN:=hid hen
  clear HCN HC0 hrs hen
  have HMK:Hid (∀w1,Below W.heap.size W w1→Calls Tryz.prog 96 #[.pointer (some ⟨g,0,none⟩),.string typ,.slice pa pt.length pc] w1 fun e w'=>∃m' c',e=.returned (.tuple #[])∧m'.mk'=rangeM y.m.mk' (typ,sortM pt)∧Mid n0 (nr+1) W s c { s with xs:=s.xs.set i { y with m:=m' } } c' w'∧(∀k,k<w1.heap.size→c' k=c k)∧w1.heap.size≤w'.heap.size∧∀k,k<w1.heap.size→k≠y.g→w'.heap[k]? = w1.heap[k]?):=fun w1 hb=>by
   rw [←hg]
   exact Mid.range HX.out HF.out (by have:=HN.out;omega) HY.out HEN.out hb typ _ pt (HPI.out w1 hb) HPF.out hmay
  have HOKW:Hid (OkW y.L):=(HF.out.okw HY.out).wr
  have HLOD:Hid (y.L.length≤nr):=by
   have:=HF.out.lod HY.out HEN.out
   show _≤_
   omega
  have HCNT:Hid (countD s.D≤4096):=by
   have h1:=HF.out.ok.cnt
   have h2:=HF.out.v4
   have h3:(countD s.D:Int)≤s.vers:=h1
   show countD s.D≤4096
   omega
  have HMAY:Hid (∀fs:List Fd,fs.map Fd.fnd=scanS s.D y.tx typ (matchM pt)→∀f∈fs,mayB (f.v.o.map Fx.fld)=true):=fun fs hfe f hf=>by
   have hm:f.fnd∈scanS s.D y.tx typ (matchM pt):=by rw [←hfe];exact List.mem_map_of_mem hf
   exact is_may HF.out.ok HOKW.out _ ((scanS_mem HF.out.ok.dir).1 hm).2.1
  have HGO:Hid (∀(m':Mx) (c2:Nat→Nat) (w2:World),Mid n0 (nr+1) W s c { s with xs:=s.xs.set i { y with m:=m' } } c2 w2→KM.Is w2 (.slice pa pt.length pc) pt→(w2.cell? ⟨g,0,none⟩=some (.int .u64 y.snap)∧w2.cell? ⟨g,2,none⟩=some (.pointer (some ⟨s.h,0,none⟩))∧w2.cell? ⟨g,3,none⟩=some (.pointer (some ⟨y.gw,0,none⟩))∧w2.cell? ⟨s.h,0,none⟩=some (.pointer (some ⟨s.hd,0,none⟩)))
    ∧ (∀w3,Below w2.heap.size w2 w3→Calls Tryz.prog 98 #[.pointer (some ⟨s.hd,0,none⟩),.string typ,.int .u64 y.snap,.slice pa pt.length pc] w3 fun e w'=>FdPost w3 (scanD s.D typ y.snap (matchM pt)) e w')
    ∧ (∀w3 w4 u fs,Below w2.heap.size w2 w3→KFd.Own w3.heap.size w4 u fs→(∀f∈fs,OwnJ w3.heap.size w4 f.v.sl f.v.o∧mayB (f.v.o.map Fx.fld)=true)→fs.map Fd.fnd=scanD s.D typ y.snap (matchM pt)→Below w3.heap.size w3 w4→Calls Tryz.prog 97 #[.pointer (some ⟨y.gw,0,none⟩),u,.string typ,.slice pa pt.length pc] w4 fun e w'=>FoPost w4 (overW y.L (scanD s.D typ y.snap (matchM pt)) typ (matchM pt)) e w')
    ∧ (∀w3 u fs,Below w2.heap.size w2 w3→KFd.Is w3 u fs→fs.map Fd.fnd=overW y.L (scanD s.D typ y.snap (matchM pt)) typ (matchM pt)→Calls Tryz.prog 99 #[u,.func (.func 100) #[.pointer (some ⟨g,0,none⟩)] #[]] w3 fun e w'=>FoPost w3 (scanS s.D y.tx typ (matchM pt)) e w')):=fun m' c2 w2 hm hp2=>by
   have hy':=set_at (z:={ y with m:=m' }) HY.out
   have xa:=hm.prg.xat hy' HEN.out
   obtain ⟨B,hw,_⟩:=hm.prg.wrt hy' HEN.out
   have hD:DirS n0 s.hd s.nv s.D w2:=hm.prg.dirS
   have hnv:s.nv≤nr:=by have:=HF.out.room;omega
   have hnr:=HN.out
   obtain ⟨x0,_,x2,x3,_⟩:=xa.xc
   obtain ⟨s0,_⟩:=xa.sc
   have hokD:OkD s.D:=HF.out.ok.dir
   refine ⟨⟨by rw [←hg];exact x0,by rw [←hg];exact x2,by rw [←hg];exact x3,s0⟩,fun w3 hb=>?_,fun w3 w4 u fs hb hu hfs hfe hb4=>?_,fun w3 u fs hb hu hfe=>?_⟩
   ·exact s_scan (hD.on hb) (by omega) typ y.snap pa pc pt (Kind.is_kept hp2 hb) HPF.out
   ·have hb24:Below w2.heap.size w2 w4:=bel_then hb hb.size hb4
    have hfl:fs.length≤4096:=by
     have e1:fs.length=(scanD s.D typ y.snap (matchM pt)).length:=by rw [←hfe,List.length_map]
     have e2:(scanD s.D typ y.snap (matchM pt)).length≤(walkD s.D y.snap).length:=List.length_filter_le _ _
     have e3:(walkD s.D y.snap).length≤s.D.length:=List.length_filterMap_le _ _
     have e4:=dir_len hokD
     have:=HCNT.out
     omega
    have hl:=HLOD.out
    have q:=wover_any (n0:=n0) (B:=B) (W:=w4) (g:=y.gw) (L:=y.L) (by obtain ⟨m,F,O,hu⟩:=hw;exact ⟨m,F,O,hu.on hb24⟩) u fs ⟨Kind.own_is hu,fun f hf=>⟨(hfs f hf).1.1.is,(may_fit (hfs f hf).2).1,(may_fit (hfs f hf).2).2⟩,fun f hf=>?_⟩ typ (.slice pa pt.length pc) pt (Kind.is_kept hp2 hb24) HPF.out (by omega)
    ·rw [hfe] at q
     exact q
    ·have hm:f.fnd∈scanD s.D typ y.snap (matchM pt):=by rw [←hfe];exact List.mem_map_of_mem hf
     exact key_fit (scan_key HF.out.ok hm)
   ·have hin:∀f∈fs,f.fnd∈overW y.L (scanD s.D typ y.snap (matchM pt)) typ (matchM pt):=fun f hf=>by rw [←hfe];exact List.mem_map_of_mem hf
    have hfl:fs.length≤200000000:=by
     have e1:fs.length=(overW y.L (scanD s.D typ y.snap (matchM pt)) typ (matchM pt)).length:=by rw [←hfe,List.length_map]
     have e2:=overW_few hokD y.L typ y.snap (matchM pt)
     have:=HCNT.out
     have:=HLOD.out
     omega
    refine (xeachF_any (g:=g) (fun k=>isS s.D y.tx k) u fs hu hfl (fun f hf=>?_) fun w' hb' f hf=>?_).mono fun e w' q=>?_
    ·cases hv:isS s.D y.tx (f.a,f.b) with
     | none=>exact may_nil
     | some v=>exact is_may HF.out.ok HOKW.out _ hv
    ·have hbw:Below w2.heap.size w2 w':=bel_then hb hb.size hb'
     have q:=xnumbered_any (n0:=n0) (n:=s.nv) (D:=s.D) (B:=B) (L:=y.L) (xa.on hbw) (hD.on hbw) (by omega) (by obtain ⟨m,F,O,hu⟩:=hw;exact ⟨m,F,O,hu.on hbw⟩) y.ended y.m.mk' f (key_fit (over_key HF.out.ok HOKW.out (hin f hf)))
     rw [←hg]
     exact q
    ·rw [hfe] at q
     have e1:=scan_over (D:=s.D) hokD (x:=y.tx) HOKW.out typ (matchM pt)
     rw [←e1]
     exact q
  have HLB:Hid (∀w1 w2:World,Below W.heap.size W w1→w1.heap.size≤w2.heap.size→(∀k,k<w1.heap.size→k≠y.g→w2.heap[k]? = w1.heap[k]?)→KM.Is w2 (.slice pa pt.length pc) pt):=fun w1 w2 hb hs hk=>by
   have xa:=(HX.out.on hb).xat HY.out HEN.out
   exact km_turn (HPI.out w1 hb) (txn_plain xa ⟨_,_,_,rfl⟩ ⟨_,_,_,rfl⟩) hk
  clear hmay
  go_enter Tryz.func32,Tryz.ntmps32
  go_wp2_with fail
  refine HRE.out.mono ?_
  rintro e1 w1 ⟨rfl,hb1⟩
  have HB1:=hid hb1
  have HM1:=hid (HMK.out w1 hb1)
  clear hb1 HRE HMK
  go_wp2_with fail
  refine HM1.out.mono ?_
  rintro e2 w2 ⟨m',c2,rfl,hmk,hmid,hc2,hs2,hbk⟩
  obtain ⟨hcells,hscan,hover,heach⟩:=HGO.out m' c2 w2 hmid (HLB.out w1 w2 HB1.out hs2 hbk)
  have HMID:=hid hmid
  have HSV:Hid (Ps.sv { s with xs:=s.xs.set i { y with m:=m' } }=setS s.sv i (tagR y.tx typ (sortM pt))):=by
   show _=_
   rw [sv_set]
   show setS s.sv i ⟨y.snap,y.ended,m'.mk',y.L⟩=_
   rw [hmk]
   rfl
  obtain ⟨x0,x2,x3,s0⟩:=hcells
  have HS:Hid (∀w',Below w2.heap.size w2 w'→w'.cell? ⟨g,0,none⟩=some (.int .u64 y.snap)∧w'.cell? ⟨g,2,none⟩=some (.pointer (some ⟨s.h,0,none⟩))∧w'.cell? ⟨g,3,none⟩=some (.pointer (some ⟨y.gw,0,none⟩))∧w'.cell? ⟨s.h,0,none⟩=some (.pointer (some ⟨s.hd,0,none⟩))):=fun w' q =>
   ⟨(q.cell (cell_block x0)).trans x0,(q.cell (cell_block x2)).trans x2,(q.cell (cell_block x3)).trans x3,(q.cell (cell_block s0)).trans s0⟩
  have hS0:=HS.out w2 (Below.refl _ _)
  have HSC:=hid (hscan (w2.drewN 1) (bel_drewN (Below.refl w2.heap.size w2) 1))
  have HOV:=hid hover
  have HEA:=hid heach
  have HW2:Hid (W.heap.size≤w2.heap.size):=hmid.fr.size
  clear hscan hover heach hmk hmid hc2 hs2 hbk HM1 HGO HLB x0 x2 x3 s0
  generalize scanD s.D typ y.snap (matchM pt)=SD at *
  generalize overW y.L SD typ (matchM pt)=OW at *
  generalize scanS s.D y.tx typ (matchM pt)=SC at *
  go_upto_region 5 with fail
  refine wp_region_held_drew (S:=fun w'=>w'.cell? ⟨g,0,none⟩=some (.int .u64 y.snap)∧w'.cell? ⟨g,2,none⟩=some (.pointer (some ⟨s.h,0,none⟩))∧w'.cell? ⟨g,3,none⟩=some (.pointer (some ⟨y.gw,0,none⟩))∧w'.cell? ⟨s.h,0,none⟩=some (.pointer (some ⟨s.hd,0,none⟩))) (by kernel_rfl) hS0 (fun hHeld=>?_)
  refine tkv 0 (.pointer (some ⟨g,0,none⟩)) hHeld ?_
  simp only [Act.put,sz]
  refine tkv 1 (.pointer (some ⟨g,0,none⟩)) hHeld ?_
  simp only [Act.put,sz]
  refine tkv 2 (.pointer (some ⟨g,3,none⟩)) hHeld ?_
  simp only [Act.put,sz]
  refine tkv 3 (.pointer (some ⟨y.gw,0,none⟩)) hHeld ?_
  simp only [Act.put,sz]
  refine tkv 4 (.pointer (some ⟨g,0,none⟩)) hHeld ?_
  simp only [Act.put,sz]
  refine tkv 5 (.pointer (some ⟨g,0,none⟩)) hHeld ?_
  simp only [Act.put,sz]
  refine tkv 6 (.pointer (some ⟨g,2,none⟩)) hHeld ?_
  simp only [Act.put,sz]
  refine tkv 7 (.pointer (some ⟨s.h,0,none⟩)) hHeld ?_
  simp only [Act.put,sz]
  refine tkv 8 (.pointer (some ⟨s.h,0,none⟩)) hHeld ?_
  simp only [Act.put,sz]
  refine tkv 9 (.pointer (some ⟨s.h,0,none⟩)) hHeld ?_
  simp only [Act.put,sz]
  refine tkv 10 (.pointer (some ⟨s.h,0,none⟩)) hHeld ?_
  simp only [Act.put,sz]
  refine tkv 11 (.pointer (some ⟨s.hd,0,none⟩)) hHeld ?_
  simp only [Act.put,sz]
  refine tkv 12 (.string typ) hHeld ?_
  simp only [Act.put,sz]
  refine tkv 13 (.pointer (some ⟨g,0,none⟩)) hHeld ?_
  simp only [Act.put,sz]
  refine tkv 14 (.pointer (some ⟨g,0,none⟩)) hHeld ?_
  simp only [Act.put,sz]
  refine tkv 15 (.pointer (some ⟨g,0,none⟩)) hHeld ?_
  simp only [Act.put,sz]
  refine tkv 16 (.int .u64 y.snap) hHeld ?_
  simp only [Act.put,sz]
  refine tkv 17 (.slice pa pt.length pc) hHeld ?_
  simp only [Act.put,sz]
  refine tkv 19 (.string typ) hHeld ?_
  simp only [Act.put,sz]
  refine tkv 20 (.slice pa pt.length pc) hHeld ?_
  simp only [Act.put,sz]
  clear hHeld hS0
  refine wpAnyH_ready (rs:=[18]) (by kernel_rfl) (by simp) ?_
  refine AllReadyH.cons (at_drop0 rfl) (fun K hK=>?_) AllReadyH.nil
  rw [if_pos (by rfl)]
  go_simp
  refine HSC.out.mono ?_
  rintro e3 w3 ⟨u,fs,rfl,hu,hfs,hfe,hb3⟩
  have hb23:Below w2.heap.size w2 w3:=bel_then (bel_drewN (Below.refl w2.heap.size w2) 1) (by simp) hb3
  have HO3:=hid (HOV.out (w2.drewN 1) w3 u fs (bel_drewN (Below.refl w2.heap.size w2) 1) hu hfs hfe hb3)
  have hS3:=HS.out w3 hb23
  have HB23:=hid hb23
  obtain ⟨up,uc,rfl⟩:=Kind.own_shape hu
  clear hu hfs hfe hb3 hb23 HSC HOV
  refine hK.out _ _ hS3 (fun hHeld=>?_)
  clear hK K
  try simp only [Act.put,sz]
  clear hHeld hS3
  refine wpAnyH_ready (rs:=[21]) (by kernel_rfl) (by simp) ?_
  refine AllReadyH.cons (at_drop0 rfl) (fun K hK=>?_) AllReadyH.nil
  rw [if_pos (by rfl)]
  go_simp
  refine HO3.out.mono ?_
  rintro e4 w4 ⟨u2,fs2,rfl,hu2,_,_,hfe2,hb4⟩
  have hb24:Below w2.heap.size w2 w4:=bel_then HB23.out HB23.out.size hb4
  have hS4:=HS.out w4 hb24
  have HE4:=hid (HEA.out w4 u2 fs2 hb24 (Kind.own_is hu2) hfe2)
  have HB24:=hid hb24
  obtain ⟨up2,uc2,rfl⟩:=Kind.own_shape hu2
  clear hu2 hfe2 hb4 hb24 HO3 HEA
  refine hK.out _ _ hS4 (fun hHeld=>?_)
  clear hK K
  try simp only [Act.put,sz]
  refine tkv 22 (.slice up2 fs2.length uc2) hHeld ?_
  simp only [Act.put,sz]
  refine wpAnyH_done (by kernel_rfl) ?_ _
  clear hS4
  go_wp2_with fail
  refine HE4.out.mono ?_
  rintro e5 w5 ⟨u3,fs3,rfl,hu3,hfs3,_,hfe3,hb5⟩
  obtain ⟨up3,uc3,rfl⟩:=Kind.own_shape hu3
  have HFIN:Hid (XsF n0 (nr+1) W s.h (s.xs.map Px.g) c RS.1 (setS s.sv i RS.2) (.returned (.tuple #[.slice up3 fs3.length uc3,.int .i64 0])) w5):=by
   show XsF _ _ _ _ _ _ _ _ _ _
   rw [HRR.out]
   have hb25:=bel_then HB24.out HB24.out.size hb5
   refine ⟨w4,w5,⟨_,fs3,rfl,hu3,fun f hf=>⟨(hfs3 f hf).1,HMAY.out fs3 hfe3 f hf⟩,hfe3,hb5⟩,(HMID.out.on hb25).stepB HSV.out (Nat.le_trans HW2.out HB24.out.size) (Nat.le_refl _) fun k h1 h2=>⟨HMID.out.prg.out k (Nat.le_trans HB24.out.size h1),rfl⟩⟩
  clear hu3 hfs3 hfe3 hb5 HE4
  go_wp2_with fail
  go_ret2
  exact HFIN.out
 ·have HRR:=hid (HCN.out hc0)
  have hcb:(cd==0)=false:=by simpa using hc0
  clear HCN HC0 hc0
  go_enter Tryz.func32,Tryz.ntmps32
  go_wp2_with fail
  refine HRE.out.mono ?_
  rintro e1 w1 ⟨rfl,hb1⟩
  have HFIN:Hid (XsF n0 (nr+1) W s.h (s.xs.map Px.g) c RS.1 (setS s.sv i RS.2) (.returned (.tuple #[.slice none 0 0,.int .i64 cd])) w1):=by
   show XsF _ _ _ _ _ _ _ _ _ _
   rw [HRR.out]
   exact ⟨w1,w1,nwf_none w1 cd,(Mid.start HX.out HF.out (Nat.le_succ nr) hb1).stepB (setS_self (tx_of HY.out)).symm hb1.size (Nat.le_refl _) fun k h1 h2=>by omega⟩
  clear hb1 HRE
  go_wp2_with fail
  go_ret2
  exact HFIN.out
end
section
open Go.RowKit Go.Lib
theorem three_boxes14 (w:World) (c1 c2 c3:Array Value) (t1 t2 t3:TypeId):Below w.heap.size w (((w.alloc (.cells c1 t1)).alloc (.cells c2 t2)).alloc (.cells c3 t3))∧(((w.alloc (.cells c1 t1)).alloc (.cells c2 t2)).alloc (.cells c3 t3)).heap[w.heap.size]? = some (.cells c1 t1 (0,0))∧(((w.alloc (.cells c1 t1)).alloc (.cells c2 t2)).alloc (.cells c3 t3)).heap[w.heap.size+1]? = some (.cells c2 t2 (0,0))∧(((w.alloc (.cells c1 t1)).alloc (.cells c2 t2)).alloc (.cells c3 t3)).heap[w.heap.size+2]? = some (.cells c3 t3 (0,0))∧(((w.alloc (.cells c1 t1)).alloc (.cells c2 t2)).alloc (.cells c3 t3)).heap.size=w.heap.size+3:=by
 obtain ⟨h1,h2,h3,h4⟩:=two_boxes14 w c1 c2 t1 t2
 have hb:Below ((w.alloc (.cells c1 t1)).alloc (.cells c2 t2)).heap.size ((w.alloc (.cells c1 t1)).alloc (.cells c2 t2)) (((w.alloc (.cells c1 t1)).alloc (.cells c2 t2)).alloc (.cells c3 t3)):=(Below.refl _ _).alloc (Nat.le_refl _) _
 have h5:=heap_alloc_new ((w.alloc (.cells c1 t1)).alloc (.cells c2 t2)) (.cells c3 t3)
 rw [h4] at h5
 exact ⟨bel_then h1 h1.size hb,(hb.block _ (by omega)).trans h2,(hb.block _ (by omega)).trans h3,h5,by rw [World.size_alloc,h4]⟩
end
section
open Go.RowKit
section
variable {W0:World} {Z:List (Nat × Obj)} {nr h:Nat} {gs:List Nat} {S:Sv} {w w':World}
def StoT (W0:World) (Z:List (Nat × Obj)) (nr h:Nat) (gs:List Nat) (S:Sv) (A:Nat) (w1 w:World):Prop:=∀Zt:List (Nat × Obj),(∀p∈Zt,A≤p.1∧w1.heap[p.1]? = some p.2)→Sto W0 (Zt++Z) nr h gs S w
theorem StepB.sto {nr':Nat} {gs':List Nat} {S':Sv} {c:Nat→Nat} {A:Nat} {w1:World} (st:StepB W0.heap.size nr' w h gs' c S' A w1 w') (hl:∀k,k<W0.heap.size→c k=0) (hz:∀p∈Z,w.heap[p.1]? = some p.2∧c p.1=0) (hb:Below W0.heap.size W0 w):StoT W0 Z nr' h gs' S' A w1 w':=fun Zt hZt=>by
 obtain ⟨c',q,f,hc,hA,hs,ht⟩:=st
 refine ⟨⟨c',q,fun k hk=>(hc k (Nat.lt_of_lt_of_le hk hb.size)).trans (hl k hk),fun p hp=>?_⟩,hb.trans (f.below hb.size fun k hk=>?_)⟩
 ·rcases List.mem_append.1 hp with hp|hp
  ·obtain ⟨h1,h2⟩:=hZt p hp
   obtain ⟨h3,h4⟩:=ht p.1 h1 (Array.getElem?_eq_some_iff.1 h2).1
   exact ⟨h4.trans h2,h3⟩
  ·obtain ⟨h1,h2⟩:=hz p hp
   have hlt:=(Array.getElem?_eq_some_iff.1 h1).1
   exact ⟨(f.block p.1 hlt fun e=>e h2).trans h1,(hc _ hlt).trans h2⟩
 ·apply Nat.le_of_not_lt
  intro h1
  exact hk (hl k h1)
theorem StepB.base {nr':Nat} {n0:Nat} {W:World} {gs':List Nat} {S':Sv} {c:Nat→Nat} {A:Nat} {w1:World} (st:StepB n0 nr' W h gs' c S' A w1 w'):W.heap.size≤A:=by
 obtain ⟨_,_,_,_,q,_⟩:=st
 exact q
theorem StoT.sto {A:Nat} {w1:World} (x:StoT W0 Z nr h gs S A w1 w):Sto W0 Z nr h gs S w:=x [] fun p hp=>by cases hp
end
end
section
open Go.RowKit
section
variable {W0:World} {Z:List (Nat × Obj)} {nr h:Nat} {gs:List Nat} {S:Sv} {w w':World}
theorem w15_scan (x:Sto W0 Z nr h gs S w) (hn:nr≤90000000) {i g:Nat} {t:Tx} (hg:gs[i]? = some g) (ht:S.txs[i]? = some t) (typ:ByteArray) (pa:Option Addr) (pc:Nat) (pt:List Tm) (hp:KM.Is w (.slice pa pt.length pc) pt) (hpf:FitM pt) :
  Calls Tryz.prog 32 #[.pointer (some ⟨g,0,none⟩),.string typ,.slice pa pt.length pc] w fun e w'=>∃w0 w1,NwF w0 (scansS S.D t typ pt).1 e w1∧w.heap.size≤w0.heap.size∧StoT W0 Z (nr+1) h gs (setS S i (scansS S.D t typ pt).2) w0.heap.size w1 w':=by
 obtain ⟨⟨c,⟨s,p,f,rfl,rfl,rfl⟩,hl,hz⟩,hb⟩:=x
 obtain ⟨y,hy,rfl,rfl⟩:=at_tx hg ht
 refine (xscan_any p f hn hy typ pa pc pt hp hpf).mono ?_
 rintro e w' ⟨w0,w1,q,st⟩
 exact ⟨w0,w1,q,st.base,st.sto hl hz hb⟩
end
end
section
open Go.RowKit
def skw15 (m n:Mk) (L M:List RowW):Sv:=⟨4096,[],0,0,0,newT 64,[⟨0,false,m,L⟩,⟨0,false,n,M⟩]⟩
def wk15 (m:Mk) (k:Ky):Tx:=⟨0,false,m,[(k,some [])]⟩
def ck15 (k:Ky):Ch:=⟨k,false,[],true,[]⟩
structure SkSt (m:Mk) (k:Ky) (j:Nat) (u:Tx) (S:Sv):Prop where
 D:S.D=[(k,[⟨1,1,0,true,[]⟩])]
 last:S.last=1
 vers:S.vers=4096
 kept:S.tk.kept=[⟨0,1,false,m,[ck15 k]⟩]
 sum:S.tk.sum=0
 tx:S.txs[j]? = some u
theorem sk_code {k:Ky} (h:keyB k.1 k.2=true):codePW k []=0:=by
 unfold codePW
 rw [if_neg (by rw [h];decide),if_neg (by rw [may_nil];decide)]
theorem sk_bad {k:Ky} (h:keyB k.1 k.2=false):codePW k []=2:=by
 unfold codePW
 rw [if_pos h]
theorem sk_putD {k:Ky} (hk:keyB k.1 k.2=true):putD [] k 1 0 true []=[(k,[⟨1,1,0,true,[]⟩])]:=by
 have hc:codeD [] k 1 true []=0:=by
  unfold codeD putC
  rw [may_nil,hk]
  rfl
 unfold putD
 rw [if_pos hc]
 rfl
theorem sk_kept (m:Mk) (k:Ky) (LE:Int) (h:LE<1):(dropT (addT (newT 64) ⟨0,1,false,m,[ck15 k]⟩).2 LE).kept=[⟨0,1,false,m,[ck15 k]⟩]:=by
 have e:(addT (newT 64) ⟨0,1,false,m,[ck15 k]⟩).2=⟨64,[⟨0,1,false,m,[ck15 k]⟩],some 1,0⟩:=by
  have e1:oldT (newT 64) ⟨0,1,false,m,[ck15 k]⟩=false:=rfl
  have e2:(newT 64).kept.length<(newT 64).most:=by decide
  unfold addT
  rw [e1]
  show keepT (newT 64) ⟨0,1,false,m,[ck15 k]⟩=_
  unfold keepT
  rw [if_pos e2]
  rfl
 rw [e]
 unfold dropT
 simp [h]
theorem sk_first {S:Sv} (hD:S.D=[]) (hl:S.last=0) (hv:S.vers=4096) (ht:S.tick=0) (hk:S.tk=newT 64) {i j:Nat} (m:Mk) {k:Ky} (hkk:keyB k.1 k.2=true) {u:Tx} (hij:i≠j) (hu:S.txs[j]? = some u) (hue:u.ended=false) (hus:u.snap=0) :
  (commitS S i (wk15 m k)).1=(1,0)∧SkSt m k j u (commitS S i (wk15 m k)).2:=by
 have hch:changesS S.D (wk15 m k)=[ck15 k]:=by rw [hD];rfl
 have e:commitS S i (wk15 m k)=((1,0),(doneS S i (wk15 m k) [ck15 k] false).2):=by
  unfold commitS
  have hlt:([ck15 k]:List Ch).any (lateS [] (wk15 m k).snap)=false:=rfl
  have hc:checkT (newT 64) (wk15 m k).snap (wk15 m k).marks [ck15 k]=(false,0):=rfl
  rw [hch,hD,hl,hk,hv,hlt,hc,if_neg (show ¬ (wk15 m k).ended=true from Bool.noConfusion),if_neg (by decide),if_neg (by decide),if_neg (by simp [countD]),if_neg (by simp [topS])]
  simp [doneS,hl]
 rw [e]
 refine ⟨rfl,?_⟩
 have hT:(doneS S i (wk15 m k) [ck15 k] false).2.txs=(setS S i { wk15 m k with ended:=true }).txs:=by unfold doneS;simp
 have htx:(doneS S i (wk15 m k) [ck15 k] false).2.txs[j]? = some u:=by
  rw [hT]
  unfold setS
  show (S.txs.set i _)[j]? = _
  rw [List.getElem?_set_ne hij]
  exact hu
 have hleast:leastS { setS S i { wk15 m k with ended:=true } with last:=S.last+1,D:=putAll S.D [ck15 k] (S.last+1) S.tick }=0∨leastS { setS S i { wk15 m k with ended:=true } with last:=S.last+1,D:=putAll S.D [ck15 k] (S.last+1) S.tick }<1:=by
  refine Or.inr ?_
  have hm:u∈(setS S i { wk15 m k with ended:=true }).txs:=List.mem_of_getElem? (by rw [←hT];exact htx)
  have:=leastS_open (S:={ setS S i { wk15 m k with ended:=true } with last:=S.last+1,D:=putAll S.D [ck15 k] (S.last+1) S.tick }) hm hue
  omega
 have hlt:leastS { setS S i { wk15 m k with ended:=true } with last:=S.last+1,D:=putAll S.D [ck15 k] (S.last+1) S.tick }<1:=by
  rcases hleast with h|h<;>omega
 have htk:(doneS S i (wk15 m k) [ck15 k] false).2.tk=dropT (addT S.tk ⟨0,S.last+1,false,m,[ck15 k]⟩).2 (leastS { setS S i { wk15 m k with ended:=true } with last:=S.last+1,D:=putAll S.D [ck15 k] (S.last+1) S.tick }):=by
  unfold doneS
  simp
  rfl
 refine ⟨?_,?_,?_,?_,?_,htx⟩
 ·unfold doneS
  simp only [List.cons_ne_nil,if_false,false_and]
  show putAll S.D [ck15 k] (S.last+1) S.tick=_
  rw [hD,hl,ht]
  exact sk_putD hkk
 ·unfold doneS
  simp [hl]
 ·unfold doneS
  simp [setS,hv]
 ·rw [htk,hk,hl]
  rw [hl] at hlt
  exact sk_kept m k _ hlt
 ·rw [htk,hk]
  rfl
theorem sk_second {m n:Mk} {k l:Ky} (hkl:l≠k) {j:Nat} {S:Sv} (x:SkSt m k j (wk15 n l) S) :
  (commitS S j (wk15 n l)).1=if hitsM n [ck15 k]&&hitsM m [ck15 l] then (0,11) else (2,0):=by
 have hof:ofD S.D l=[]:=by
  rw [x.D]
  unfold ofD
  simp [Ne.symm hkl]
  rfl
 have hch:changesS S.D (wk15 n l)=[ck15 l]:=by
  unfold changesS
  rw [if_neg (by simp [wk15])]
  show [chgS S.D 0 (l,some [])]=_
  unfold chgS oldS
  rw [show ofD S.D (l,some ([]:List Fld)).1=[] from hof]
  rfl
 have hlt:([ck15 l]:List Ch).any (lateS S.D (wk15 n l).snap)=false:=by
  simp only [List.any_cons,List.any_nil,Bool.or_false]
  unfold lateS
  rw [show (ck15 l).key=l from rfl,hof]
  rfl
 have hcl:clashT S.tk (wk15 n l).snap (wk15 n l).marks [ck15 l]=(hitsM n [ck15 k]&&hitsM m [ck15 l]):=by
  unfold clashT deepT outT inT
  rw [x.kept,x.sum]
  simp [besideT,wk15]
 have hcnt:countD S.D=1:=by rw [x.D];rfl
 unfold commitS
 rw [hch,hlt,if_neg (show ¬ (wk15 n l).ended=true from Bool.noConfusion),if_neg (by decide)]
 unfold checkT
 rw [hcl]
 cases hb:(hitsM n [ck15 k]&&hitsM m [ck15 l]) with
 | true=>simp
 | false =>
  simp only [Bool.false_eq_true,if_false]
  rw [if_neg (by simp),if_neg (by rw [hcnt,x.vers];simp),if_neg (by rw [x.last];simp [topS])]
  simp [doneS,x.last]
theorem sk_hit (b:Ky):hitsM ([b],[]) [ck15 b]=true:=by
 simp [hitsM,hitM,ck15]
theorem sk_range (a:Ky):hitsM ([],[(a.1,[])]) [ck15 a]=true:=by
 simp [hitsM,hitM,ck15,touchesM,matchM]
theorem sk_none (a:Ky):hitsM ([],[]) [ck15 a]=false:=rfl
theorem sk_readS {a b:Ky} (hab:b≠a) (hb:keyB b.1 b.2=true):readS [] (wk15 ([],[]) a) b=((none,6),wk15 ([b],[]) a):=by
 have hg:getW [(a,(some []:Wr))] b=none:=by
  unfold getW
  rw [if_neg (Ne.symm hab)]
  rfl
 have his:isS [] (wk15 ([],[]) a) b=none:=by
  unfold isS
  rw [show (wk15 ([],[]) a).wr=[(a,some [])] from rfl,hg]
  rfl
 unfold readS
 rw [his,hb]
 rfl
end
section
open Go.RowKit
theorem isxs_none15 (w:World):IsXs w (.slice none 0 0) []:=⟨none,0,rfl,Or.inl rfl,fun x hx=>by cases hx⟩
theorem ism_none15 (w:World):KM.Is w (.slice none 0 0) []:=⟨none,0,rfl,Or.inl rfl⟩
theorem fitm_none15:FitM []:=⟨by unfold maxLen;simp,fun x hx=>by cases hx⟩
theorem skw_t0 (m n:Mk) (L M:List RowW):(skw15 m n L M).txs[0]? = some ⟨0,false,m,L⟩:=rfl
theorem skw_t1 (m n:Mk) (L M:List RowW):(skw15 m n L M).txs[1]? = some ⟨0,false,n,M⟩:=rfl
theorem three_boxes15 (w:World) (c1 c2 c3:Array Value) (t1 t2 t3:TypeId) (V:World) (hV:((w.alloc (.cells c1 t1)).alloc (.cells c2 t2)).alloc (.cells c3 t3)=V):Below w.heap.size w V∧V.heap[w.heap.size]? = some (.cells c1 t1 (0,0))∧V.heap[w.heap.size+1]? = some (.cells c2 t2 (0,0))∧V.heap[w.heap.size+2]? = some (.cells c3 t3 (0,0))∧V.heap.size=w.heap.size+3:=by
 rw [←hV]
 exact three_boxes14 w c1 c2 c3 t1 t2 t3
set_option linter.unusedSimpArgs false in
set_option maxHeartbeats 1500000 in
set_option maxRecDepth 100000 in
theorem skew15_any (w:World) (a:Ky) (ha:FitKy12 a) (b:Ky) (hb:FitKy12 b) (first both:Bool) :
  Calls Tryz.prog 6 #[.agg #[.string a.1,.string a.2],.agg #[.string b.1,.string b.2],.agg #[.bool first,.bool both]] w fun e w'=>e=.returned (.bool true)∧Below w.heap.size w w':=by
 obtain ⟨V,hV⟩:∃V,((w.alloc (.cells #[.string a.1,.string a.2] 39)).alloc (.cells #[.string b.1,.string b.2] 39)).alloc (.cells #[.bool first,.bool both] 81)=V:=⟨_,rfl⟩
 obtain ⟨hb0,q0,q1,q2,hsz⟩:=three_boxes15 w _ _ _ _ _ _ V hV
 obtain ⟨Q,hQ⟩:∃Q,w.heap.size=Q:=⟨_,rfl⟩
 rw [hQ] at q0 q1 q2 hsz
 have hs1:(w.alloc (.cells #[.string a.1,.string a.2] 39)).heap.size=Q+1:=by rw [←hQ];simp
 have hs2:((w.alloc (.cells #[.string a.1,.string a.2] 39)).alloc (.cells #[.string b.1,.string b.2] 39)).heap.size=Q+2:=by rw [←hQ];simp
 have HB0:=hid hb0
 have HF:=hid (fixed15_any V)
 have HCL:Hid (∀W',Below V.heap.size V W'→(W'.cell? ⟨Q,0,none⟩=some (.string a.1)∧W'.cell? ⟨Q,1,none⟩=some (.string a.2))∧(W'.cell? ⟨Q+1,0,none⟩=some (.string b.1)∧W'.cell? ⟨Q+1,1,none⟩=some (.string b.2))∧W'.cell? ⟨Q+2,0,none⟩=some (.bool first)∧W'.cell? ⟨Q+2,1,none⟩=some (.bool both)):=fun W' hW=>by
  have e0:=(hW.block Q (by omega)).trans q0
  have e1:=(hW.block (Q+1) (by omega)).trans q1
  have e2:=(hW.block (Q+2) (by omega)).trans q2
  exact ⟨⟨by rw [Lib.cell_of_heap e0];rfl,by rw [Lib.cell_of_heap e0];rfl⟩,⟨by rw [Lib.cell_of_heap e1];rfl,by rw [Lib.cell_of_heap e1];rfl⟩,by rw [Lib.cell_of_heap e2];rfl,by rw [Lib.cell_of_heap e2];rfl⟩
 have HAF:=hid ha
 have HBF:=hid hb
 obtain ⟨aa,ab⟩:=a
 obtain ⟨ba,bb⟩:=b
 simp only at *
 have HEQ:Hid (∀W,(binOp .eql 39 (.agg #[.string aa,.string ab]) (.agg #[.string ba,.string bb])).run Tryz.prog W=.ok (.bool (decide ((aa,ab)=(ba,bb)))) W):=fun W=>by
  rw [Z.eql_key aa ab ba bb W,Z.eqK_iff (aa,ab) (ba,bb)]
 clear ha hb hb0 q0 q1 q2 hsz
 go_enter Tryz.func6,Tryz.ntmps6
 go_upto_region 1 with fail
 try rw [hQ]
 try rw [hs1]
 try rw [hs2]
 try rw [hV]
 clear hs1 hs2 hV
 go_wp2_with fail
 refine HF.out.mono ?_
 rintro e w1 ⟨rfl,hb1⟩
 have HB1:=hid hb1
 obtain ⟨_,_,f0,f1⟩:=HCL.out w1 hb1
 have HN:=hid fun n=>w15_new (w1.drewN n) 4096 64 1 0 (by decide) (by decide) rfl
 clear hb1 HF
 go_upto_region 3 with fail
 refine wp_region_held_drew (S:=fun w'=>w'.cell? ⟨Q+2,0,none⟩=some (.bool first)∧w'.cell? ⟨Q+2,1,none⟩=some (.bool both)) (by kernel_rfl) ⟨f0,f1⟩ (fun hHeld=>?_)
 refine tkv 0 (.pointer (some ⟨Q+2,0,none⟩)) hHeld ?_
 simp only [Act.put,sz]
 refine tkv 1 (.bool first) hHeld ?_
 simp only [Act.put,sz]
 refine tkv 2 (.pointer (some ⟨Q+2,1,none⟩)) hHeld ?_
 simp only [Act.put,sz]
 refine tkv 3 (.bool both) hHeld ?_
 simp only [Act.put,sz]
 refine tkv 4 (.bool first) hHeld ?_
 simp only [Act.put,sz]
 refine tkv 5 (.bool both) hHeld ?_
 simp only [Act.put,sz]
 refine wpAnyH_done (by kernel_rfl) ?_ _
 clear f0 f1
 go_wp2_with fail
 refine (HN.out 1).mono ?_
 rintro e w2 ⟨h,rfl,hx2⟩
 have HBG:=hid (w15_begin hx2 (by decide))
 obtain ⟨W0,hW0⟩:∃W0,w1.drewN 1=W0:=⟨_,rfl⟩
 rw [hW0] at HBG
 have HBW:Hid (Below V.heap.size V W0):=by
  show Below _ _ _
  rw [←hW0]
  exact bel_drewN HB1.out 1
 clear hx2 HN hW0 HB1
 go_wp2_with fail
 refine HBG.out.mono ?_
 rintro e w3 ⟨gx,rfl,hx3⟩
 have HBG2:=hid (w15_begin hx3 (by decide))
 clear hx3 HBG
 go_wp2_with fail
 refine HBG2.out.mono ?_
 rintro e w4 ⟨gy,rfl,hx4⟩
 have hx4':Sto W0 [] 2 h [gx,gy] (skw15 ([],[]) ([],[]) [] []) w4:=hx4
 have HPU:=hid (w15_put hx4' (by decide) (i:=0) (g:=gx) rfl (skw_t0 _ _ _ _) (aa,ab) HAF.out (.slice none 0 0) [] [] (isxs_none15 _) fitX_none rfl)
 have HBE:Hid (∀{Z nr S W'},Sto W0 Z nr h [gx,gy] S W'→Below V.heap.size V W'∧Below w.heap.size w W'):=fun {Z nr S W'} x=>by
  have q:=bel_then HBW.out HBW.out.size x.bel
  exact ⟨q,bel_then HB0.out HB0.out.size q⟩
 obtain ⟨⟨a0,a1⟩,_⟩:=HCL.out w4 (HBE.out hx4').1
 clear hx4 hx4' HBG2
 cases hka:keyB aa ab with
 | false =>
  rw [show (writeS ⟨0,false,([],[]),[]⟩ (aa,ab) []).1=codePW (aa,ab) [] from rfl,sk_bad hka] at HPU
  clear hka
  go_wp2_with fail
  refine HPU.out.mono ?_
  rintro e w5 ⟨rfl,hx5⟩
  have HFIN:=hid (HBE.out hx5).2
  clear hx5 HPU a0 a1
  go_wp2_with fail
  go_ret
  exact ⟨rfl,HFIN.out⟩
 | true =>
  rw [o15_put _ (sk_code hka)] at HPU
  have HKA:=hid hka
  clear hka
  go_wp2_with fail
  refine HPU.out.mono ?_
  rintro e w5 ⟨rfl,hx5⟩
  have hx5':Sto W0 [] 3 h [gx,gy] (skw15 ([],[]) ([],[]) [((aa,ab),some [])] []) w5:=hx5
  have HPV:=hid (w15_put hx5' (by decide) (i:=1) (g:=gy) rfl (skw_t1 _ _ _ _) (ba,bb) HBF.out (.slice none 0 0) [] [] (isxs_none15 _) fitX_none rfl)
  clear a0 a1
  obtain ⟨⟨a0,a1⟩,⟨b0,b1⟩,_⟩:=HCL.out w5 (HBE.out hx5').1
  have HF5:=hid (HBE.out hx5').2
  clear hx5 hx5' HPU
  have heq:=HEQ.out
  by_cases hab:(aa,ab)=(ba,bb)
  ·rw [decide_eq_true hab] at heq
   clear hab HPV
   go_wp2_with fail
   go_ret
   exact ⟨rfl,HF5.out⟩
  ·rw [decide_eq_false hab] at heq
   have HAB:=hid hab
   clear hab HF5
   go_upto_region 9 with fail
   clear heq
   cases hkb:keyB ba bb with
   | false =>
    rw [show (writeS ⟨0,false,([],[]),[]⟩ (ba,bb) []).1=codePW (ba,bb) [] from rfl,sk_bad hkb] at HPV
    clear hkb
    go_wp2_with fail
    refine HPV.out.mono ?_
    rintro e w6 ⟨rfl,hx6⟩
    have HFIN:=hid (HBE.out hx6).2
    clear hx6 HPV a0 a1 b0 b1
    go_wp2_with fail
    go_ret
    exact ⟨rfl,HFIN.out⟩
   | true =>
    rw [o15_put _ (sk_code hkb)] at HPV
    have HKB:=hid hkb
    clear hkb
    go_wp2_with fail
    refine HPV.out.mono ?_
    rintro e w6 ⟨rfl,hx6⟩
    have hx6':Sto W0 [] 4 h [gx,gy] (skw15 ([],[]) ([],[]) [((aa,ab),some [])] [((ba,bb),some [])]) w6:=hx6
    have HRD:=hid (w15_read hx6' (by decide) (i:=0) (g:=gx) rfl (skw_t0 _ _ _ _) (ba,bb) HBF.out)
    have hrs:readS [] ⟨0,false,([],[]),[((aa,ab),some [])]⟩ (ba,bb)=((none,6),wk15 ([(ba,bb)],[]) (aa,ab)):=sk_readS (a:=(aa,ab)) (b:=(ba,bb)) (fun e=>HAB.out e.symm) HKB.out
    rw [show (skw15 ([],[]) ([],[]) [((aa,ab),some [])] [((ba,bb),some [])]).D=[] from rfl,hrs] at HRD
    clear a0 a1 b0 b1
    obtain ⟨⟨a0,a1⟩,⟨b0,b1⟩,_⟩:=HCL.out w6 (HBE.out hx6').1
    clear hx6 hx6' HPV hrs
    go_wp2_with fail
    refine HRD.out.mono ?_
    rintro e w7 ⟨v7,rfl,_,hx7⟩
    have hx7':Sto W0 [] 5 h [gx,gy] (skw15 ([(ba,bb)],[]) ([],[]) [((aa,ab),some [])] [((ba,bb),some [])]) w7:=hx7
    have HX7:=hid hx7'
    clear hx7 hx7' HRD a0 a1 b0 b1
    have HEND:Hid (∀(n:Mk) (nr:Nat) (W':World),nr≤10→Sto W0 [] nr h [gx,gy] (skw15 ([(ba,bb)],[]) n [((aa,ab),some [])] [((ba,bb),some [])]) W' →
      Calls Tryz.prog 28 #[.pointer (some ⟨if first then gx else gy,0,none⟩)] W' fun e w1=>e=.returned (.tuple #[.int .u64 1,.int .i64 0])∧Calls Tryz.prog 28 #[.pointer (some ⟨if first then gy else gx,0,none⟩)] w1 fun e w2=>e=.returned (.tuple #[.int .u64 (if hitsM n [ck15 (aa,ab)] then 0 else 2),.int .i64 (if hitsM n [ck15 (aa,ab)] then 11 else 0)])∧Below w.heap.size w w2):=fun n nr W' hnr x=>by
     cases first with
     | true =>
      obtain ⟨e1,e2⟩:=sk_first (S:=skw15 ([(ba,bb)],[]) n [((aa,ab),some [])] [((ba,bb),some [])]) rfl rfl rfl rfl rfl (i:=0) (j:=1) ([(ba,bb)],[]) (k:=(aa,ab)) HKA.out (by decide) (skw_t1 _ _ _ _) rfl rfl
      have e3:=sk_second (n:=n) (l:=(ba,bb)) (fun e=>HAB.out e.symm) e2
      refine (w15_commit x (by omega) (i:=0) (g:=gx) rfl (skw_t0 _ _ _ _)).mono fun e w1 q=>?_
      have q1:(commitS (skw15 ([(ba,bb)],[]) n [((aa,ab),some [])] [((ba,bb),some [])]) 0 ⟨0,false,([(ba,bb)],[]),[((aa,ab),some [])]⟩).1=(1,0):=e1
      refine ⟨by rw [q.1,q1],(w15_commit q.2 (by omega) (i:=1) (g:=gy) rfl e2.tx).mono fun e w2 q'=>⟨?_,(HBE.out q'.2).2⟩⟩
      have e3':(commitS (commitS (skw15 ([(ba,bb)],[]) n [((aa,ab),some [])] [((ba,bb),some [])]) 0 ⟨0,false,([(ba,bb)],[]),[((aa,ab),some [])]⟩).2 1 ⟨0,false,n,[((ba,bb),some [])]⟩).1=_:=e3
      rw [q'.1,e3',sk_hit (ba,bb),Bool.and_true]
      cases hitsM n [ck15 (aa,ab)]<;>rfl
     | false =>
      obtain ⟨e1,e2⟩:=sk_first (S:=skw15 ([(ba,bb)],[]) n [((aa,ab),some [])] [((ba,bb),some [])]) rfl rfl rfl rfl rfl (i:=1) (j:=0) n (k:=(ba,bb)) HKB.out (by decide) (skw_t0 _ _ _ _) rfl rfl
      have e3:=sk_second (n:=([(ba,bb)],[])) (l:=(aa,ab)) HAB.out e2
      refine (w15_commit x (by omega) (i:=1) (g:=gy) rfl (skw_t1 _ _ _ _)).mono fun e w1 q=>?_
      have q1:(commitS (skw15 ([(ba,bb)],[]) n [((aa,ab),some [])] [((ba,bb),some [])]) 1 ⟨0,false,n,[((ba,bb),some [])]⟩).1=(1,0):=e1
      refine ⟨by rw [q.1,q1],(w15_commit q.2 (by omega) (i:=0) (g:=gx) rfl e2.tx).mono fun e w2 q'=>⟨?_,(HBE.out q'.2).2⟩⟩
      have e3':(commitS (commitS (skw15 ([(ba,bb)],[]) n [((aa,ab),some [])] [((ba,bb),some [])]) 1 ⟨0,false,n,[((ba,bb),some [])]⟩).2 0 ⟨0,false,([(ba,bb)],[]),[((aa,ab),some [])]⟩).1=_:=e3
      rw [q'.1,e3',sk_hit (ba,bb),Bool.true_and]
      cases hitsM n [ck15 (aa,ab)]<;>rfl
    cases both with
    | true =>
     have HSC:=hid (w15_scan HX7.out (by decide) (i:=1) (g:=gy) rfl (skw_t1 _ _ _ _) aa none 0 [] (ism_none15 _) fitm_none15)
     obtain ⟨⟨a0,a1⟩,_⟩:=HCL.out w7 (HBE.out HX7.out).1
     clear HX7
     go_wp2_with fail
     refine HSC.out.mono ?_
     rintro e w8 ⟨u0,u1,⟨v8,fs8,rfl,hv8,_⟩,_,hx8⟩
     obtain ⟨p8,c8,rfl⟩:=Kind.own_shape hv8
     have hx8':Sto W0 [] 6 h [gx,gy] (skw15 ([(ba,bb)],[]) ([],[(aa,[])]) [((aa,ab),some [])] [((ba,bb),some [])]) w8:=hx8.sto
     have HE8:=hid (HEND.out _ 6 w8 (by decide) hx8')
     rw [sk_range (aa,ab)] at HE8
     simp only [if_true] at HE8
     clear hx8 hx8' hv8 HSC HEND a0 a1
     cases first with
     | true =>
      simp only [if_true] at HE8
      go_wp2_with fail
      refine HE8.out.mono ?_
      rintro e w9 ⟨rfl,hq9⟩
      have HQ9:=hid hq9
      clear hq9 HE8
      go_wp2_with fail
      refine HQ9.out.mono ?_
      rintro e w10 ⟨rfl,hq10⟩
      have HFIN:=hid hq10
      clear hq10 HQ9
      go_wp2_with fail
      go_ret
      exact ⟨rfl,HFIN.out⟩
     | false =>
      simp only [Bool.false_eq_true,if_false] at HE8
      go_wp2_with fail
      refine HE8.out.mono ?_
      rintro e w9 ⟨rfl,hq9⟩
      have HQ9:=hid hq9
      clear hq9 HE8
      go_wp2_with fail
      refine HQ9.out.mono ?_
      rintro e w10 ⟨rfl,hq10⟩
      have HFIN:=hid hq10
      clear hq10 HQ9
      go_wp2_with fail
      go_ret
      exact ⟨rfl,HFIN.out⟩
    | false =>
     have HE8:=hid (HEND.out _ 5 w7 (by decide) HX7.out)
     rw [sk_none (aa,ab)] at HE8
     simp only [Bool.false_eq_true,if_false] at HE8
     clear HX7 HEND
     cases first with
     | true =>
      simp only [if_true] at HE8
      go_wp2_with fail
      refine HE8.out.mono ?_
      rintro e w9 ⟨rfl,hq9⟩
      have HQ9:=hid hq9
      clear hq9 HE8
      go_wp2_with fail
      refine HQ9.out.mono ?_
      rintro e w10 ⟨rfl,hq10⟩
      have HFIN:=hid hq10
      clear hq10 HQ9
      go_wp2_with fail
      go_ret
      exact ⟨rfl,HFIN.out⟩
     | false =>
      simp only [Bool.false_eq_true,if_false] at HE8
      go_wp2_with fail
      refine HE8.out.mono ?_
      rintro e w9 ⟨rfl,hq9⟩
      have HQ9:=hid hq9
      clear hq9 HE8
      go_wp2_with fail
      refine HQ9.out.mono ?_
      rintro e w10 ⟨rfl,hq10⟩
      have HFIN:=hid hq10
      clear hq10 HQ9
      go_wp2_with fail
      go_ret
      exact ⟨rfl,HFIN.out⟩
end
section
theorem and_storeSkew {a b:Bool} (ha:a=true) (hb:b=true):(a&&b)=true:=by rw [ha,hb];rfl
theorem fact_storeSkew_0:(Rows.storeSkewRow.wf (OpenSpec.ofChange Rows.storeSkewSpec))=true:=by kernel_rfl
theorem fact_storeSkew_1:(laidOutB Tryz.pinned.checked.prog)=true:=by kernel_rfl
theorem fact_storeSkew_2:(mapsRowed Tryz.pinned.checked.prog)=true:=by kernel_rfl
theorem fact_storeSkew_3:(Tryz.f6.params.all (Tryz.pinned.checked.prog.readableRec ·))=true:=by kernel_rfl
theorem fact_storeSkew_4:(namedTie Tryz.pinned.checked.prog Rows.storeSkewRow.named Rows.storeSkewSpec.vars)=true:=by kernel_rfl
theorem fact_storeSkew_5:((Rows.storeSkewRow.stops==[]))=true:=by kernel_rfl
theorem fact_storeSkew_6:((Tryz.pinned.checked.prog.stops==[]))=true:=by kernel_rfl
theorem fact_storeSkew_7:((Rows.storeSkewRow.knobs==[]))=true:=by kernel_rfl
theorem fact_storeSkew_8:((Tryz.pinned.checked.prog.stopKnobs==[]))=true:=by kernel_rfl
theorem fact_storeSkew_9:((Rows.storeSkewRow.inPlace==Tryz.pinned.checked.prog.inPlace 6))=true:=by kernel_rfl
theorem fact_storeSkew_10:((Rows.storeSkewRow.unfollowed==Tryz.pinned.checked.prog.unfollowed 6))=true:=by kernel_rfl
theorem fact_storeSkew_11:((Rows.storeSkewRow.recurses==Tryz.pinned.checked.prog.recurses 6))=true:=by kernel_rfl
theorem fact_storeSkew_12:((Rows.storeSkewRow.named==Tryz.pinned.checked.prog.varsNamed 6))=true:=by kernel_rfl
theorem fact_storeSkew_13:((Rows.storeSkewRow.maps==(Tryz.f6.params.toList++Rows.storeSkewSpec.plain.varTypes Tryz.pinned.checked.prog).any (Tryz.pinned.checked.prog.mapsRec ·)))=true:=by kernel_rfl
theorem fact_storeSkew_14:((Rows.storeSkewRow.ifaces==(Tryz.f6.params.toList++Rows.storeSkewSpec.plain.varTypes Tryz.pinned.checked.prog).any (Tryz.pinned.checked.prog.ifacesRec ·)))=true:=by kernel_rfl
theorem fact_storeSkew_15:((Rows.storeSkewRow.mapsOut==Tryz.pinned.checked.prog.mapsAmong Tryz.f6.resultTypes.toList))=true:=by kernel_rfl
theorem fact_storeSkew_16:((Rows.storeSkewRow.loops==(Tryz.f6.params.toList++Rows.storeSkewSpec.plain.varTypes Tryz.pinned.checked.prog).any (Tryz.pinned.checked.prog.loopsFrom ·)))=true:=by kernel_rfl
theorem fact_storeSkew_17:((Rows.storeSkewRow.wideKeys==(Tryz.f6.params.toList++Rows.storeSkewSpec.plain.varTypes Tryz.pinned.checked.prog++Tryz.f6.resultTypes.toList).any (Tryz.pinned.checked.prog.wideKeysFrom ·)))=true:=by kernel_rfl
theorem fact_storeSkew_18:(Rows.storeSkewSpec.vars.all (Tryz.pinned.checked.prog.varReadable ·))=true:=by kernel_rfl
theorem fact_storeSkew_19:(Tryz.f6.resultTypes.all (fun t=>Tryz.pinned.checked.prog.readableRec t&&decide (t<Tryz.pinned.checked.prog.types.size)))=true:=by kernel_rfl
theorem fact_storeSkew_20:((Rows.storeSkewRow.ifacesOut==Tryz.f6.resultTypes.toList.any (Tryz.pinned.checked.prog.ifacesRec ·)))=true:=by kernel_rfl
theorem fact_storeSkew_21:((Rows.storeSkewRow.loopsOut==Tryz.f6.resultTypes.toList.any (Tryz.pinned.checked.prog.loopsFrom ·)))=true:=by kernel_rfl
theorem fact_storeSkew_22:((Rows.storeSkewRow.plainKeys==Tryz.pinned.checked.prog.plainKeys))=true:=by kernel_rfl
theorem fact_storeSkew_23:(Rows.storeSkewRow.shortTexts.isNone)=true:=by kernel_rfl
theorem fact_storeSkew_24:(Tryz.pinned.checked.prog.stopsHeard)=true:=by kernel_rfl
theorem fact_storeSkew_25:(Tryz.pinned.checked.prog.mayEnter)=true:=by kernel_rfl
theorem fact_storeSkew_26:((Rows.storeSkewRow.lifted==Tryz.pinned.checked.prog.liftsFinal))=true:=by kernel_rfl
theorem fact_storeSkew_27:((Tryz.pinned.checked.prog.make==some Rows.storeSkewRow.make))=true:=by kernel_rfl
theorem fact_storeSkew_28:((Rows.storeSkewRow.kinds==(if Rows.storeSkewRow.domain.isEmpty then [] else Tryz.f6.params.toList.map fun t=>match Tryz.pinned.checked.prog.underlying t with|some (.int k)=>some k|_=>none)))=true:=by kernel_rfl
theorem fact_storeSkew_29:((Rows.storeSkewRow.pinned==Rows.storeSkewRow.pinnedBy))=true:=by kernel_rfl
theorem fact_storeSkew_30:((Rows.storeSkewRow.veiled==(Tryz.f6.params.toList++Rows.storeSkewSpec.plain.varTypes Tryz.pinned.checked.prog++Tryz.f6.resultTypes.toList).any (Tryz.pinned.checked.prog.veiledRec ·)))=true:=by kernel_rfl
theorem fact_storeSkew_31:(Rows.storeSkewRow.veiledFits Tryz.pinned.checked.prog Tryz.f6.params.toList (Tryz.f6.params.toList++Rows.storeSkewSpec.plain.varTypes Tryz.pinned.checked.prog++Tryz.f6.resultTypes.toList))=true:=by kernel_rfl
end
end Go.Proofs.YtmhlcnmfbolgdaaGreat
