/-
  Texts of this claim, one behind the other: Pc1 Pc2 Pc3 Tok Rtok App Rp3 Pc5 Pc7 Pc8 Cb0 Kp0 Pc9 Hp0 Hbx Hp7 Tak Tkm Hp8 Re1 Re2.
-/
import Derived.Test.YtjeogllmpjihaaaGreatDoorPd
import Derived.Laws.RangeString
import Derived.Lib.IndexAny
import Derived.ChangeMaps5
import Derived.WalkMore
import Derived.Laws.CopyOwn
import Derived.Maps.AppendAt
namespace Go.Proofs.YtjeogllmpjihaaaGreatDoor
section
open Go.RowKit Go.Sort Go.Lib
set_option maxHeartbeats 1000000 in
theorem or_any (g:Nat) (a b c:Int) (w:World) (c0:w.cell? ⟨g,0,none⟩=some (.int .i64 a)) (c1:w.cell? ⟨g,1,none⟩=some (.int .i64 b)) (c2:w.cell? ⟨g,2,none⟩=some (.int .i64 c)) :
  Calls Tryz.prog 198 #[.slice (some ⟨g,0,none⟩) 3 3] w fun e w'=>e=.returned (.int .i64 (pairI a (pairI b c)))∧w'=w:=by
 by_cases ha:a=0
 ·subst ha
  rw [pairI_zero]
  by_cases hb:b=0
  ·subst hb
   rw [pairI_zero]
   by_cases hc:c=0
   ·subst hc
    go_enter Tryz.func198,Tryz.ntmps198
    go_wp2_with fail
    refine wp_loop_rounds 4 ?_
    rw [rounds_succ]
    go_wp2_with fail
    rw [rounds_succ]
    go_wp2_with fail
    rw [rounds_succ]
    go_wp2_with fail
    rw [rounds_succ]
    go_wp2_with fail
    go_ret
    exact ⟨rfl,rfl⟩
   ·have hcn:(c != 0)=true:=by simpa using hc
    go_enter Tryz.func198,Tryz.ntmps198
    go_wp2_with fail
    refine wp_loop_rounds 3 ?_
    rw [rounds_succ]
    go_wp2_with fail
    rw [rounds_succ]
    go_wp2_with fail
    rw [rounds_succ]
    go_wp2_with fail
    go_ret
    exact ⟨rfl,rfl⟩
  ·have hbn:(b != 0)=true:=by simpa using hb
   rw [pairI_ne hb]
   go_enter Tryz.func198,Tryz.ntmps198
   go_wp2_with fail
   refine wp_loop_rounds 2 ?_
   rw [rounds_succ]
   go_wp2_with fail
   rw [rounds_succ]
   go_wp2_with fail
   go_ret
   exact ⟨rfl,rfl⟩
 ·have han:(a != 0)=true:=by simpa using ha
  rw [pairI_ne ha]
  go_enter Tryz.func198,Tryz.ntmps198
  go_wp2_with fail
  refine wp_loop_rounds 1 ?_
  rw [rounds_succ]
  go_wp2_with fail
  go_ret
  exact ⟨rfl,rfl⟩
set_option maxHeartbeats 4000000 in
set_option maxRecDepth 100000 in
theorem compare_any (x y:Tm) (w:World):Calls Tryz.prog 164 #[.agg (encM x).toArray,.agg (encM y).toArray] w fun e w'=>e=.returned (.int .i64 (cmpM x y))∧Grown w w':=by
 obtain ⟨a1,a2,a3⟩:=x
 obtain ⟨b1,b2,b3⟩:=y
 simp only [encM]
 obtain ⟨p1,hp1⟩:∃p,Lib.compareBytes a1.data.toList b1.data.toList=p:=⟨_,rfl⟩
 obtain ⟨p2,hp2⟩:∃p,Lib.compareInt a2 b2=p:=⟨_,rfl⟩
 obtain ⟨p3,hp3⟩:∃p,Lib.compareBytes a3.data.toList b3.data.toList=p:=⟨_,rfl⟩
 have HC:Hid (cmpM (a1,a2,a3) (b1,b2,b3)=pairI p1 (pairI p2 p3)):=by show _=_;rw [←hp1,←hp2,←hp3];rfl
 have H1:Hid (∀w,Calls Tryz.prog 199 #[.string a1,.string b1] w fun e w'=>e=.returned (.int .i64 p1)∧w'=w):=fun w=>by rw [←hp1];exact Tryz.strings_Compare _ _ _
 have H2:Hid (∀w,Calls Tryz.prog 200 #[.int .i64 a2,.int .i64 b2] w fun e w'=>e=.returned (.int .i64 p2)∧w'=w):=fun w=>by rw [←hp2];exact Tryz.cmp_Compare_int _ _ _
 have H3:Hid (∀w,Calls Tryz.prog 199 #[.string a3,.string b3] w fun e w'=>e=.returned (.int .i64 p3)∧w'=w):=fun w=>by rw [←hp3];exact Tryz.strings_Compare _ _ _
 clear hp1 hp2 hp3
 go_enter Tryz.func164,Tryz.ntmps164
 go_wp2_with fail
 obtain ⟨W,hW⟩:∃W,(w.alloc (.cells #[.string a1,.int .i64 a2,.string a3] 49)).alloc (.cells #[.string b1,.int .i64 b2,.string b3] 49)=W:=⟨_,rfl⟩
 obtain ⟨N,hN⟩:∃N,w.heap.size=N:=⟨_,rfl⟩
 have hs:W.heap.size=N+2:=by rw [←hW,←hN];simp
 have hh0:W.heap[N]? = some (.cells #[.string a1,.int .i64 a2,.string a3] 49 (0,0)):=by
  rw [←hW,←hN];exact (Below.heap_alloc _ _ _ (by simp)).trans (heap_alloc_new w _)
 have hh1:W.heap[N+1]? = some (.cells #[.string b1,.int .i64 b2,.string b3] 49 (0,0)):=by
  rw [←hW,←hN];have:=heap_alloc_new (w.alloc (.cells #[.string a1,.int .i64 a2,.string a3] 49)) (.cells #[.string b1,.int .i64 b2,.string b3] 49);rwa [World.size_alloc] at this
 have HG:Hid (Grown w W):=by rw [←hW];exact ((Grown.refl _).alloc _).alloc _
 have KS:Hid (∀w':World,w'.heap[N]? = W.heap[N]?→w'.heap[N+1]? = W.heap[N+1]?→w'.cell? ⟨N,0,none⟩=some (.string a1)∧w'.cell? ⟨N,1,none⟩=some (.int .i64 a2)∧w'.cell? ⟨N,2,none⟩=some (.string a3)∧w'.cell? ⟨N+1,0,none⟩=some (.string b1)∧w'.cell? ⟨N+1,1,none⟩=some (.int .i64 b2)∧w'.cell? ⟨N+1,2,none⟩=some (.string b3)):=fun w' e e'=>by
  rw [Lib.cell_of_heap (e.trans hh0),Lib.cell_of_heap (e.trans hh0),Lib.cell_of_heap (e.trans hh0),Lib.cell_of_heap (e'.trans hh1),Lib.cell_of_heap (e'.trans hh1),Lib.cell_of_heap (e'.trans hh1)]
  exact ⟨rfl,rfl,rfl,rfl,rfl,rfl⟩
 have q0:=KS.out W.drew rfl rfl
 have q1:=KS.out (W.drew.alloc (.cells #[.int .i64 p1,.int .i64 p2,.int .i64 p3] 3)) (Below.heap_alloc _ _ _ (by show N<W.heap.size;omega)) (Below.heap_alloc _ _ _ (by show N+1<W.heap.size;omega))
 have HO:Hid (Calls Tryz.prog 198 #[.slice (some ⟨W.heap.size,0,none⟩) 3 3] (W.drew.alloc (.cells #[.int .i64 p1,.int .i64 p2,.int .i64 p3] 3)) fun e w'=>e=.returned (.int .i64 (pairI p1 (pairI p2 p3)))∧w'=W.drew.alloc (.cells #[.int .i64 p1,.int .i64 p2,.int .i64 p3] 3)) :=
  or_any W.drew.heap.size p1 p2 p3 _ (by rw [Lib.cell_of_heap (heap_alloc_new W.drew _)];rfl) (by rw [Lib.cell_of_heap (heap_alloc_new W.drew _)];rfl) (by rw [Lib.cell_of_heap (heap_alloc_new W.drew _)];rfl)
 clear hh0 hh1 hs
 rw [hN]
 rw [hW]
 clear hW hN
 go_region_held3 (fun w'=>w'.cell? ⟨N,0,none⟩=some (.string a1)∧w'.cell? ⟨N,1,none⟩=some (.int .i64 a2)∧w'.cell? ⟨N,2,none⟩=some (.string a3)∧w'.cell? ⟨N+1,0,none⟩=some (.string b1)∧w'.cell? ⟨N+1,1,none⟩=some (.int .i64 b2)∧w'.cell? ⟨N+1,2,none⟩=some (.string b3))
  (first|exact q0|exact q1)
  (first
   | (go_at_call 199;refine (H1.out _).mono ?_;rintro e w1 ⟨rfl,rfl⟩)
   | (go_at_call 199;refine (H3.out _).mono ?_;rintro e w1 ⟨rfl,rfl⟩)
   | (go_at_call 200;refine (H2.out _).mono ?_;rintro e w1 ⟨rfl,rfl⟩)
   | (go_at_call 198;refine HO.out.mono ?_;rintro e w1 ⟨rfl,rfl⟩))
 go_wp2_with fail
 go_ret
 exact ⟨ret_int HC.out.symm,(HG.out.drewN 1).alloc _⟩
theorem cmpLaysM (blk off size:Nat) (w:World):CmpLays Tryz.prog 164 #[] encM 3 cmpM blk off size w :=
 fun _ _ _ _ x y=>compare_any x y _
theorem enters_compare:∀args w,(callFunc 164 args).run Tryz.prog w=.ok (.enter 164 args) w:=enters_of Tryz.func164 (by kernel_rfl) rfl
theorem sortM_rows (n0 g n cap:Nat) (d:List Tm) (w:World) (h:KM.Own n0 w (.slice (some ⟨g,0,none⟩) n cap) d) (hn:d.length=n) (h0:n0≤w.heap.size) (h12:n≤12) :
  Calls Tryz.prog 163 #[.slice (some ⟨g,0,none⟩) n cap,.func (.func 164) #[] #[]] w fun e w' =>
   e=.returned (.tuple #[])∧∃d':Array Tm,d'.size=n∧d'.toList.Perm d∧SortedIn (ltOf cmpM) 0 d'.size d'∧KM.Own n0 w' (.slice (some ⟨g,0,none⟩) n cap) d'.toList∧Below n0 w w':=by
 subst hn
 have hg:g<w.heap.size∧n0≤g:=by
  rcases h.2 with ⟨hv,_⟩|⟨g',cap',cur,hv,h1,h2,_⟩
  ·cases hv
  ·injection hv with e1 e2 e3
   injection e1 with e1
   injection e1 with e1 _ _
   subst e1
   exact ⟨(Array.getElem?_eq_some_iff.1 h2).1,h1⟩
 have hs:d.toArray.size=d.length:=by simp
 have hc:=AnyQ.slices_SortFunc_small_sorted Tryz.sortTrm 3 Tryz.isAgg49 Tryz.sizeOf49 encM (fun _=>rfl) KM.one cmpM 164 #[] swoM g 0 cap d.toArray w enters_compare (cmpLaysM g 0 _ w) (own_holds h) hg.1 (by rw [hs];exact h12)
  (fun n W hn=>(Tryz.bits_Len (n:Int) W (by omega) (by omega)).mono fun e w' ⟨h1,h2⟩=>⟨⟨_,h1⟩,h2⟩)
 rw [hs] at hc
 change Calls Tryz.prog 163 _ _ _ at hc
 refine hc.mono ?_
 rintro e w' ⟨rfl,d',m,os,hp,hso,rfl⟩
 have hsz:d'.size=d.length:=by have:=hp.1;rwa [hs] at this
 refine ⟨rfl,d',hsz,?_,by rw [hsz];exact hso,own_sorted h d' hsz m os,below_sortM (Below.refl _ _) h0 g 0 m d' os hg.2⟩
 have:=hp.2.2
 have e1:d'.extract 0 d.length=d':=by rw [←hsz];simp
 have e2:d.toArray.extract 0 d.length=d.toArray:=by rw [←hs];simp
 rw [e1,e2] at this
 simpa using this
end
section
open Go.RowKit Go.Sort Go.Lib
theorem eql_term (a b:Tm) (w:World):(binOp .eql 49 (.agg #[.string a.1,.int .i64 a.2.1,.string a.2.2]) (.agg #[.string b.1,.int .i64 b.2.1,.string b.2.2])).run Tryz.prog w=.ok (.bool (decide (a=b))) w:=by
 obtain ⟨a1,a2,a3⟩:=a
 obtain ⟨b1,b2,b3⟩:=b
 have hS:Tryz.prog.underlying 49=some (.struct (Tryz.prog.fieldsOf 49)):=by kernel_rfl
 have hp:Tryz.prog.stoodInHeld 49=false:=by kernel_rfl
 have u9:=Tryz.underlying9
 have a9:=Tryz.isAgg9
 have z9:=Tryz.sizeOf9
 have u3:=Tryz.underlying3
 have a3':=Tryz.isAgg3
 have z3:=Tryz.sizeOf3
 rw [run_eql_struct,show (10000:Nat)=9999+1 from rfl,run_equalIn_agg w 9999 49 _ _ hS hp]
 simp only [Program.fieldsOf,Tryz.underlying49]
 go_simp
 by_cases h1:a1=b1
 ·subst h1
  by_cases h2:a2=b2
  ·subst h2
   by_cases h3:a3=b3
   ·subst h3;simp
   ·have e3:=beq_eq_false_iff_ne.1 (seq_false h3)
    simp [h3,e3]
  ·simp [h2]
 ·have e1:=beq_eq_false_iff_ne.1 (seq_false h1)
  simp [h1,e1]
theorem run_clearM (w:World) (ty:TypeId) (g o n c:Nat) (hn:0<n) (hc:∀j,j<n * 3→(w.cell? ⟨g,o+j,none⟩).isSome=true) (hf:∀j,j<n * 3→w.frozen? ⟨g,o+j,none⟩=false) :
  ∃zs:List Value,(Builtin.clear_ #[39] ty #[.slice (some ⟨g,o,none⟩) n c]).run Tryz.prog w=.ok (.tuple #[]) (w.setCells g o zs):=by
 have hv:∀w,(zeroValue 49).run Tryz.prog w=.ok (.agg #[.string ⟨#[]⟩,.int .i64 0,.string ⟨#[]⟩]) w:=Tryz.zeroValue49
 obtain ⟨zs,hzs⟩:∃zs,(Builtin.zeroCells (Value.agg #[.string ⟨#[]⟩,.int .i64 0,.string ⟨#[]⟩]).cells n).toList=zs:=⟨_,rfl⟩
 have hl:zs.length=n * 3:=by rw [←hzs,Array.length_toList,size_zeroCells];rfl
 have h1:∀v∈zs,v.oneCell'=true:=by
  intro v hm
  rw [←hzs] at hm
  simp only [Builtin.zeroCells,Array.toList_map,List.mem_map] at hm
  obtain ⟨i,_,rfl⟩:=hm
  have h3:i % (Value.agg #[.string ⟨#[]⟩,.int .i64 0,.string ⟨#[]⟩]).cells.size<3:=Nat.mod_lt _ (by decide)
  obtain ⟨m,hm⟩:∃m,i % (Value.agg #[.string ⟨#[]⟩,.int .i64 0,.string ⟨#[]⟩]).cells.size=m:=⟨_,rfl⟩
  rw [hm] at h3 ⊢
  rcases (show m=0∨m=1∨m=2 by omega) with rfl|rfl|rfl<;>rfl
 refine ⟨zs,?_⟩
 have hst:=run_storeCells_cells (P:=Tryz.prog) g o zs 0 w (by rw [hl];simpa using hc) (by rw [hl];simpa using hf) h1
 simp only [Nat.add_zero] at hst
 obtain ⟨m,rfl⟩:∃m,n=m+1:=⟨n-1,by omega⟩
 simp [Builtin.clear_,run_underlying Tryz.underlying39,hv,hzs,hst]
theorem own_cells {n0 g n cap:Nat} {w:World} {d:Array Tm} (h:KM.Own n0 w (.slice (some ⟨g,0,none⟩) n cap) d.toList) (i:Nat) (hi:i<d.size) :
  w.cell? ⟨g,i * 3,none⟩=some (.string (d[i]!).1)∧w.cell? ⟨g,i * 3+1,none⟩=some (.int .i64 (d[i]!).2.1)∧w.cell? ⟨g,i * 3+2,none⟩=some (.string (d[i]!).2.2) ∧
  w.frozen? ⟨g,i * 3,none⟩=false∧w.frozen? ⟨g,i * 3+1,none⟩=false∧w.frozen? ⟨g,i * 3+2,none⟩=false:=by
 have hH:=own_holds h
 have hi':i<d.toList.toArray.size:=by simpa using hi
 have k0:=hH.cell (i:=i) (c:=0) hi' (by decide)
 have k1:=hH.cell (i:=i) (c:=1) hi' (by decide)
 have k2:=hH.cell (i:=i) (c:=2) hi' (by decide)
 have he:d.toList.toArray[i]! = d[i]!:=by simp
 rw [he] at k0 k1 k2
 simp only [Nat.zero_add,Nat.add_zero] at k0 k1 k2
 exact ⟨k0.1,k1.1,k2.1,k0.2,k1.2,k2.2⟩
theorem own_some {n0 g n cap:Nat} {w:World} {d:Array Tm} (h:KM.Own n0 w (.slice (some ⟨g,0,none⟩) n cap) d.toList) (t:Nat) (ht:t<d.size * 3) :
  (w.cell? ⟨g,t,none⟩).isSome=true∧w.frozen? ⟨g,t,none⟩=false:=by
 have:=own_holds h t (by rw [size_flatK];simpa using ht)
 rw [Nat.zero_add] at this
 exact ⟨by rw [this.1];rfl,this.2⟩
theorem own_ge {n0 g n cap:Nat} {w:World} {d:List Tm} (h:KM.Own n0 w (.slice (some ⟨g,0,none⟩) n cap) d):n0≤g∧g<w.heap.size∧d.length≤cap∧cap≤maxLen:=by
 rcases h.2 with ⟨hv,_⟩|⟨g',cap',cur,hv,h1,h2,h3,h4,_⟩
 ·cases hv
 ·injection hv with e1 e2 e3
  injection e1 with e1
  injection e1 with e1 _ _
  subst e1 e3
  exact ⟨h1,(Array.getElem?_eq_some_iff.1 h2).1,h3,h4⟩
theorem own_drew {n0:Nat} {w:World} {v:Value} {d:List Tm} (h:KM.Own n0 w v d) (q:Nat):KM.Own n0 (w.drewN q) v d:=h
theorem compact_same {d:Array Tm} (h:∀j,j<d.size→keeps d j=true):compactUpTo d d.size=d.toList:=by
 rw [compactUpTo_all d _ h,range_map_get]
theorem comp_low {d dk:Array Tm} {m k:Nat} (h:CompInv d m k dk) (hk:k≤dk.size):dk.toList.take k=compactUpTo d m:=by
 apply List.ext_getElem?
 intro j
 rw [List.getElem?_take]
 by_cases hj:j<k
 ·rw [if_pos hj,h.low j hj,Array.getElem?_toList,Array.getElem?_eq_getElem (by omega),getElem!_pos dk j (by omega)]
 ·rw [if_neg hj,List.getElem?_eq_none (by rw [h.len];omega)]
def CompPost (n0 g cap:Nat) (d:Array Tm) (w:World) (e:Ending) (w':World):Prop :=
 e=.returned (.slice (some ⟨g,0,none⟩) (compactUpTo d d.size).length cap)∧KM.Own n0 w' (.slice (some ⟨g,0,none⟩) (compactUpTo d d.size).length cap) (compactUpTo d d.size)∧Below n0 w w'
theorem CompPost.same {n0 g n cap:Nat} {d:Array Tm} {w:World} (h:KM.Own n0 w (.slice (some ⟨g,0,none⟩) n cap) d.toList) (hn:d.size=n) (hk:∀j,j<d.size→keeps d j=true) (q:Nat) :
  CompPost n0 g cap d w (.returned (.slice (some ⟨g,0,none⟩) n cap)) (w.drewN q):=by
 subst hn
 unfold CompPost
 rw [compact_same hk]
 refine ⟨by simp,?_,bel_drewN (Below.refl _ _) q⟩
 have:d.toList.length=d.size:=by simp
 rw [this]
 exact own_drew h q
set_option maxHeartbeats 8000000 in
set_option maxRecDepth 100000 in
theorem compact_any (n0 g n cap:Nat) (d:Array Tm) (w:World) (h:KM.Own n0 w (.slice (some ⟨g,0,none⟩) n cap) d.toList) (hn:d.size=n) (hn0:n0≤w.heap.size) (h63:n≤1000) :
  Calls Tryz.prog 165 #[.slice (some ⟨g,0,none⟩) n cap] w fun e w'=>CompPost n0 g cap d w e w':=by
 obtain ⟨hng,hgl,hcap,hcm⟩:=own_ge h
 have hcap':n≤cap:=by rw [←hn];simpa using hcap
 unfold maxLen at hcm
 have HH:=hid h
 have HN:=hid hn
 clear h hn hcap
 by_cases h2:n<2
 ·have h2z:(n:Int)<2:=by omega
  have HP:=hid (CompPost.same HH.out HN.out (fun j hj=>keeps_lt_one d j (by rw [HN.out] at hj;omega)) 0)
  go_enter Tryz.func165,Tryz.ntmps165
  go_wp2_with fail
  go_ret
  exact HP.out
 ·have h2z:¬ (n:Int)<2:=by omega
  go_enter Tryz.func165,Tryz.ntmps165
  go_wp2_with fail
  go_loopg [3] n (fun g s3 wr=>∃k q:Nat,1≤k∧k≤n∧n-k≤g∧s3=.int .i64 k∧wr=w.drewN q∧Hid (∀j,j<k→keeps d j=true))
  case atStart=>exact ⟨1,0,Nat.le_refl _,by omega,by omega,rfl,rfl,keeps_lt_one d⟩
  case round =>
   obtain ⟨k,q,hk1,hk,hg,rfl,rfl,A⟩:=hrel
   by_cases hlt:k<n
   ·have hltz:(k:Int)<(n:Int):=by omega
    have hkz:(0:Int)≤k:=by omega
    have hkz1:(0:Int)≤(k:Int)-1:=by omega
    have hkz2:(k:Int)-1<(n:Int):=by omega
    have hkt:((k:Int)-1).toNat=k-1:=by omega
    obtain ⟨c0,c1,c2,_,_,_⟩:=own_cells HH.out k (by rw [HN.out];exact hlt)
    obtain ⟨y0,y1,y2,_,_,_⟩:=own_cells HH.out (k-1) (by rw [HN.out];omega)
    obtain ⟨x,hx⟩:∃x,d[k]! = x:=⟨_,rfl⟩
    obtain ⟨y,hy⟩:∃y,d[k-1]! = y:=⟨_,rfl⟩
    rw [hx] at c0 c1 c2
    rw [hy] at y0 y1 y2
    have B:Hid (d[k]! = x∧d[k-1]! = y):=⟨hx,hy⟩
    have heq:=fun W=>eql_term x y W
    clear hx hy
    by_cases hdup:x=y
    ·have hd:=decide_eq_true hdup
     rw [hd] at heq
     have HDUP:=hid hdup
     clear hdup hd
     go_wp2_with fail
     go_quiet (fail)
     go_wp2_with fail
     clear c0 c1 c2 y0 y1 y2
     have ST0:Hid (CompInv d (k+1) k d):=CompInv.start A.out (keeps_neg (by omega) (by rw [B.out.1,B.out.2];exact HDUP.out))
     go_loopg [3,5] n (fun gm s3 s5 wr=>∃(kk k2:Nat) (dk:Array Tm),s3=.int .i64 kk∧s5=.int .i64 k2∧1≤k2∧k+k2≤n∧n-(k+k2)≤gm∧kk<k+k2∧Hid (CompInv d (k+k2) kk dk)∧Hid (KM.Own n0 wr (.slice (some ⟨g,0,none⟩) n cap) dk.toList)∧Hid (Below n0 w wr))
     case atStart=>exact ⟨k,1,d,rfl,rfl,Nat.le_refl _,by omega,by omega,by omega,ST0,own_drew HH.out _,bel_drewN (Below.refl _ _) _⟩
     case round =>
      obtain ⟨kk,k2,dk,rfl,rfl,h1,hle,hg2,hkk,I2,HO,HB⟩:=hrel
      have hds:dk.size=n:=by rw [I2.out.size];exact HN.out
      have hkz':(0:Int)≤kk:=by omega
      have hkn':(kk:Int)<(n:Int):=by omega
      have hk2z:(0:Int)≤k2:=by omega
      have hk2m:(0:Int)≤(k2:Int)-1:=by omega
      have hk2t:((k2:Int)-1).toNat=k2-1:=by omega
      by_cases hlt2:k+k2<n
      ·have hl2:(k2:Int)<((n-k:Nat):Int):=by omega
       have hl3:(k2:Int)-1<((n-k:Nat):Int):=by omega
       obtain ⟨u0,u1,u2,_,_,_⟩:=own_cells HO.out (k+k2) (by omega)
       obtain ⟨v0,v1,v2,_,_,_⟩:=own_cells HO.out (k+k2-1) (by omega)
       obtain ⟨o0,o1,o2,f0,f1,f2⟩:=own_cells HO.out kk (by omega)
       rw [I2.out.high (k+k2) (by omega),show (k+k2) * 3=k * 3+k2 * 3 by omega] at u0 u1 u2
       rw [I2.out.high (k+k2-1) (by omega),show (k+k2-1) * 3=k * 3+(k2-1) * 3 by omega] at v0 v1 v2
       obtain ⟨u,hu⟩:∃u,d[k+k2]! = u:=⟨_,rfl⟩
       obtain ⟨v,hv⟩:∃v,d[k+k2-1]! = v:=⟨_,rfl⟩
       obtain ⟨old,hol⟩:∃old,dk[kk]! = old:=⟨_,rfl⟩
       rw [hu] at u0 u1 u2
       rw [hv] at v0 v1 v2
       rw [hol] at o0 o1 o2
       have C:Hid (d[k+k2]! = u∧d[k+k2-1]! = v):=⟨hu,hv⟩
       have hne:=fun W=>neq_term u v W
       clear hu hv hol
       by_cases huv:u=v
       ·have hd:=decide_eq_true huv
        rw [hd] at hne
        have HUV:=hid huv
        clear huv hd
        go_wp2_with fail
        go_quiet (fail)
        go_wp2_with fail
        go_roundg (n-(k+(k2+1)))
        case measure=>omega
        exact ⟨kk,k2+1,dk,rfl,by go_num,by omega,by omega,Nat.le_refl _,by omega,I2.out.skip (keeps_neg (by omega) (by rw [C.out.1,C.out.2];exact HUV.out)),own_drew HO.out _,bel_drewN HB.out _⟩
       ·have hd:=decide_eq_false huv
        rw [hd] at hne
        have HUV:=hid huv
        clear huv hd
        have HPUT:Hid (∀nq,KM.Own n0 ((((wr.drewN nq).setCell ⟨g,kk * 3,none⟩ (.string u.1)).setCell ⟨g,kk * 3+1,none⟩ (.int .i64 u.2.1)).setCell ⟨g,kk * 3+2,none⟩ (.string u.2.2)) (.slice (some ⟨g,0,none⟩) n cap) (dk.setIfInBounds kk u).toList):=fun nq=>by
         rw [Array.toList_setIfInBounds]
         exact own_put (own_drew HO.out nq) (by simpa using hds) kk (by rw [Array.length_toList];omega) u
        go_wp2_with fail
        go_quiet (fail)
        go_wp2_with fail
        go_roundg (n-(k+(k2+1)))
        case measure=>omega
        refine ⟨kk+1,k2+1,dk.setIfInBounds kk u,by go_num,by go_num,by omega,by omega,Nat.le_refl _,by omega,?_,HPUT.out _,(((bel_drewN HB.out _).setCell (p:=⟨g,kk * 3,none⟩) hng _).setCell (p:=⟨g,kk * 3+1,none⟩) hng _).setCell (p:=⟨g,kk * 3+2,none⟩) hng _⟩
        have:=I2.out.keep (by rw [HN.out];exact hlt2) (keeps_pos (by rw [C.out.1,C.out.2];exact HUV.out))
        rw [C.out.1] at this
        exact this
      ·have hend:k+k2=n:=by omega
       have hl2:¬ (k2:Int)<((n-k:Nat):Int):=by omega
       have hnk:0<n-kk:=by omega
       obtain ⟨zs,hcl⟩:∃zs:List Value,∀ty,(Builtin.clear_ #[39] ty #[.slice (some ⟨g,kk * 3,none⟩) (n-kk) (cap-kk)]).run Tryz.prog wr=.ok (.tuple #[]) (wr.setCells g (kk * 3) zs):=by
        obtain ⟨zs,hz⟩:=run_clearM wr 0 g (kk * 3) (n-kk) (cap-kk) hnk (fun j hj=>(own_some HO.out (kk * 3+j) (by omega)).1) (fun j hj=>(own_some HO.out (kk * 3+j) (by omega)).2)
        exact ⟨zs,fun ty=>hz⟩
       have HE:=hid hend
       clear hend
       go_wp2_with fail
       go_ret
       have hI:=I2.out
       rw [HE.out,←HN.out] at hI
       have hlow:=comp_low hI (by omega)
       have hln:=hI.len
       unfold CompPost
       rw [hln,←hlow]
       refine ⟨rfl,own_past zs wr (kk * 3) (own_cut HO.out kk (by rw [Array.length_toList];omega)) (by rw [List.length_take,Array.length_toList];omega) (Nat.le_refl _),?_⟩
       exact HB.out.grown (grown_sets zs wr wr (kk * 3) (by have:=grown_set wr g 0 (.int .i64 0);exact ⟨rfl,rfl,rfl,Nat.le_refl _,fun _ _ _=>rfl⟩)) (Nat.le_trans hn0 HB.out.size) (fun k e=>by cases e;exact hng)
    ·have hd:=decide_eq_false hdup
     rw [hd] at heq
     have HDUP:=hid hdup
     clear hdup hd
     go_wp2_with fail
     go_quiet (fail)
     go_wp2_with fail
     go_roundg (n-(k+1))
     case measure=>omega
     refine ⟨k+1,_,by omega,by omega,Nat.le_refl _,by go_num,rfl,fun j hj=>?_⟩
     by_cases e:j=k
     ·subst e
      exact keeps_pos (by rw [B.out.1,B.out.2];exact HDUP.out)
     ·exact A.out j (by omega)
   ·have hkn:k=n:=by omega
    subst hkn
    have HP:=hid (CompPost.same HH.out HN.out (fun j hj=>A.out j (by rw [HN.out] at hj;exact hj)) q)
    have hltz:¬ (k:Int)<(k:Int):=by omega
    go_wp2_with fail
    go_ret
    exact HP.out
end
section
open Go.RowKit Go.Sort Go.Lib
set_option maxHeartbeats 1000000 in
theorem pmis_any (x:Tm) (w:World) (hs:x.1.size≤maxLen):Calls Tryz.prog 194 #[.agg (encM x).toArray] w fun e w'=>e=.returned (.bool (!namedM x))∧Grown w w':=by
 obtain ⟨a,o,t⟩:=x
 simp only [encM,namedM] at hs ⊢
 go_enter Tryz.func194,Tryz.ntmps194
 go_wp2_with (go_at_call 180;refine (field_any _ _ hs).mono ?_;rintro e w' ⟨rfl,rfl⟩)
 go_ret
 exact ⟨rfl,(Grown.refl _).alloc _⟩
set_option maxHeartbeats 1000000 in
theorem plong_any (x:Tm) (w:World):Calls Tryz.prog 195 #[.agg (encM x).toArray] w fun e w'=>e=.returned (.bool (!shortM x))∧Grown w w':=by
 obtain ⟨a,o,t⟩:=x
 simp only [encM,shortM]
 have HE:Hid (decide ((128:Int)<t.size) = !decide (t.size≤128)):=by
  show _=_
  rw [Bool.eq_iff_iff];simp;omega
 go_enter Tryz.func195,Tryz.ntmps195
 go_wp2_with fail
 go_ret
 exact ⟨ret_bool HE.out,(Grown.refl _).alloc _⟩
set_option maxHeartbeats 2000000 in
theorem punm_any (x:Tm) (w:World):Calls Tryz.prog 160 #[.agg (encM x).toArray] w fun e w'=>e=.returned (.bool (!rightM x))∧Grown w w':=by
 obtain ⟨a,o,t⟩:=x
 simp only [encM]
 by_cases h6:o=6∨o=7
 ·have HE:Hid ((!t.toList.isEmpty) = !rightM (a,o,t)):=by
   show _=_
   unfold rightM
   have e1:decide (1≤o)=true:=decide_eq_true (by omega)
   have e2:decide (o≤7)=true:=decide_eq_true (by omega)
   have e3:decide (o<6)=false:=decide_eq_false (by omega)
   simp only [e1,e2,e3,Bool.true_and,Bool.false_or]
   congr 1
   by_cases hz:t.size=0
   ·rw [sempty_of hz,decide_eq_true hz]
   ·rw [sfull_of hz,decide_eq_false hz]
  rcases h6 with rfl|rfl
  ·go_enter Tryz.func160,Tryz.ntmps160
   go_wp2_with fail
   go_ret
   exact ⟨ret_bool HE.out,(Grown.refl _).alloc _⟩
  ·go_enter Tryz.func160,Tryz.ntmps160
   go_wp2_with fail
   go_ret
   exact ⟨ret_bool HE.out,(Grown.refl _).alloc _⟩
 ·by_cases h5:o=1∨o=2∨o=3∨o=4∨o=5
  ·have HE:Hid (false = !rightM (a,o,t)):=by
    show _=_
    unfold rightM
    have e1:decide (1≤o)=true:=decide_eq_true (by omega)
    have e2:decide (o≤7)=true:=decide_eq_true (by omega)
    have e3:decide (o<6)=true:=decide_eq_true (by omega)
    simp only [e1,e2,e3,Bool.true_and,Bool.true_or,Bool.not_true]
   rcases h5 with rfl|rfl|rfl|rfl|rfl <;>
   ·go_enter Tryz.func160,Tryz.ntmps160
    go_wp2_with fail
    go_ret
    exact ⟨ret_bool HE.out,(Grown.refl _).alloc _⟩
  ·have HE:Hid (true = !rightM (a,o,t)):=by
    show _=_
    unfold rightM
    by_cases e1:1≤o
    ·have e2:decide (o≤7)=false:=decide_eq_false (by omega)
     simp [e2]
    ·simp [e1]
   have n1:(o==1)=false:=by simp;omega
   have n2:(o==2)=false:=by simp;omega
   have n3:(o==3)=false:=by simp;omega
   have n4:(o==4)=false:=by simp;omega
   have n5:(o==5)=false:=by simp;omega
   have n6:(o==6)=false:=by simp;omega
   have n7:(o==7)=false:=by simp;omega
   clear h5 h6
   go_enter Tryz.func160,Tryz.ntmps160
   go_wp2_with fail
   go_ret
   exact ⟨ret_bool HE.out,(Grown.refl _).alloc _⟩
def Tf:Type:={ x:Tm // x.1.size≤maxLen∧x.2.2.size≤maxLen∧-9223372036854775808≤x.2.1∧x.2.1≤9223372036854775807 }
def tfNone:Tf:=⟨(⟨#[]⟩,0,⟨#[]⟩),Nat.zero_le _,Nat.zero_le _,by decide,by decide⟩
set_option maxHeartbeats 1000000 in
theorem hasM_none (p:Option Addr) (c:Nat) (fv:Value) (w:World) :
  Calls Tryz.prog 193 #[.slice p 0 c,fv] w fun e w'=>e=.returned (.bool false)∧w'=w:=by
 have hix:Calls Tryz.prog 215 #[.slice p 0 c,fv] w fun e w'=>e=.returned (.int .i64 (-1))∧w'=w:=by
  go_enter Tryz.func215,Tryz.ntmps215
  go_wp2_with fail
  refine wp_loop_rounds 1 ?_
  rw [rounds_succ]
  go_wp2_with fail
  go_ret
  exact ⟨rfl,rfl⟩
 have HX:=hid hix
 clear hix
 go_enter Tryz.func193,Tryz.ntmps193
 go_wp2_with (first|(go_at_call 215;refine HX.out.mono ?_;rintro e w1 ⟨rfl,rfl⟩))
 go_ret
 exact ⟨rfl,rfl⟩
theorem km_enc {w:World} {b off:Nat} {p:List Tm} (h:KM.At w b off p) (j:Nat) (hj:j<p.length) (i:Nat) (v:Value) (hv:(encM p[j])[i]? = some v):w.cell? ⟨b,off+j * 3+i,none⟩=some v:=h j hj i v hv
theorem hasM_any (f:Tm→Bool) (k:Nat) (lb:Array Value) (ent:∀args w,(callFunc k args).run Tryz.prog w=.ok (.enter k args) w) (v:Value) (p:List Tm) (w:World) (hv:KM.Is w v p) (hf:FitM p)
  (hk:∀(W:World) (x:Tm),Below w.heap.size w W→x.1.size≤maxLen→x.2.2.size≤maxLen→(-9223372036854775808≤x.2.1∧x.2.1≤9223372036854775807)→Calls Tryz.prog k (#[.agg (encM x).toArray]++lb) W fun e w'=>e=.returned (.bool (f x))∧Below w.heap.size w w') :
  Calls Tryz.prog 193 #[v,.func (.func k) #[] lb] w fun e w'=>e=.returned (.bool (p.any f))∧Below w.heap.size w w':=by
 obtain ⟨q,cap,rfl,hd⟩:=hv
 by_cases h0:p=[]
 ·subst h0
  refine (hasM_none q cap _ w).mono ?_
  rintro e w' ⟨rfl,rfl⟩
  exact ⟨rfl,Below.refl _ _⟩
 ·rcases hd with hd|⟨b,off,rfl,hx⟩
  ·exact absurd hd h0
  ·have hlen:0<p.length:=List.length_pos_iff.2 h0
   have hl:=hf.1
   unfold maxLen at hl
   have hfn:∀x∈p,x.1.size≤maxLen∧x.2.2.size≤maxLen∧-9223372036854775808≤x.2.1∧x.2.1≤9223372036854775807:=hf.2
   obtain ⟨zs,hzs⟩:∃zs:List Tf,zs.map (·.1)=p:=⟨p.attachWith _ hfn,List.attachWith_map_subtype_val ..⟩
   have hzl:zs.length=p.length:=by rw [←hzs,List.length_map]
   letI:Inhabited Tf:=⟨tfNone⟩
   have hc:=AnyQ.slices_ContainsFunc (α:=Tf) Tryz.hasTrm 3 Tryz.isAgg49 Tryz.sizeOf49 (fun x=>encM x.1) (fun _=>rfl) (fun x=>f x.1) k lb ent b off p.length cap zs w
    (fun W x hb=>hk W x.1 hb x.2.1 x.2.2.1 x.2.2.2) (by omega) (by omega) (cell_block (hx 0 hlen 0 _ rfl))
    (fun j hj i u hu=>by
     have hj':j<p.length:=by omega
     rw [getElem!_pos zs j hj] at hu
     have e:(zs[j]).1=p[j]:=by subst hzs;simp
     rw [e] at hu
     exact km_enc hx j hj' i u hu)
   change Calls Tryz.prog 193 _ _ _ at hc
   refine hc.mono ?_
   rintro e w' ⟨rfl,hb⟩
   refine ⟨ret_bool ?_,hb⟩
   rw [List.take_of_length_le (by omega),←hzs]
   simp [List.any_map,Function.comp_def]
theorem enters_pmis:∀args w,(callFunc 194 args).run Tryz.prog w=.ok (.enter 194 args) w:=enters_of Tryz.func194 (by kernel_rfl) rfl
theorem enters_punm:∀args w,(callFunc 160 args).run Tryz.prog w=.ok (.enter 160 args) w:=enters_of Tryz.func160 (by kernel_rfl) rfl
theorem enters_plong:∀args w,(callFunc 195 args).run Tryz.prog w=.ok (.enter 195 args) w:=enters_of Tryz.func195 (by kernel_rfl) rfl
theorem any_not (p:List Tm) (f:Tm→Bool):p.any (fun x=>!f x) = !p.all f:=by
 induction p with
 | nil=>rfl
 | cons x p ih=>simp only [List.any_cons,List.all_cons,ih,Bool.not_and]
theorem hasMis (v:Value) (p:List Tm) (w:World) (hv:KM.Is w v p) (hf:FitM p):Calls Tryz.prog 193 #[v,.func (.func 194) #[] #[]] w fun e w'=>e=.returned (.bool (!p.all namedM))∧Below w.heap.size w w':=by
 have:=hasM_any (fun x=>!namedM x) 194 #[] enters_pmis v p w hv hf (fun W x hb h1 _ _=>(pmis_any x W h1).mono fun _ _ ⟨h2,h3⟩=>⟨h2,hb.trans (h3.below.mono hb.size)⟩)
 rwa [any_not] at this
theorem hasUnm (v:Value) (p:List Tm) (w:World) (hv:KM.Is w v p) (hf:FitM p):Calls Tryz.prog 193 #[v,.func (.func 160) #[] #[]] w fun e w'=>e=.returned (.bool (!p.all rightM))∧Below w.heap.size w w':=by
 have:=hasM_any (fun x=>!rightM x) 160 #[] enters_punm v p w hv hf (fun W x hb _ _ _=>(punm_any x W).mono fun _ _ ⟨h2,h3⟩=>⟨h2,hb.trans (h3.below.mono hb.size)⟩)
 rwa [any_not] at this
theorem hasLng (v:Value) (p:List Tm) (w:World) (hv:KM.Is w v p) (hf:FitM p):Calls Tryz.prog 193 #[v,.func (.func 195) #[] #[]] w fun e w'=>e=.returned (.bool (!p.all shortM))∧Below w.heap.size w w':=by
 have:=hasM_any (fun x=>!shortM x) 195 #[] enters_plong v p w hv hf (fun W x hb _ _ _=>(plong_any x W).mono fun _ _ ⟨h2,h3⟩=>⟨h2,hb.trans (h3.below.mono hb.size)⟩)
 rwa [any_not] at this
set_option maxHeartbeats 2000000 in
set_option maxRecDepth 100000 in
theorem pmay_any (v:Value) (p:List Tm) (w:World) (hv:KM.Is w v p) (hf:FitM p) :
  Calls Tryz.prog 161 #[v] w fun e w'=>e=.returned (.int .i64 (mayM p))∧Below w.heap.size w w':=by
 obtain ⟨q,cap,hvv⟩:∃q cap,v=.slice q p.length cap:=by obtain ⟨q,cap,h,_⟩:=hv;exact ⟨q,cap,h⟩
 subst hvv
 have HV:=hid hv
 have HF:=hid hf
 have H1:=hid (hasMis _ p w hv hf)
 obtain ⟨m,hm⟩:∃m,mayM p=m:=⟨_,rfl⟩
 rw [hm]
 have HM:=hid hm
 clear hm hv hf
 unfold mayM at HM
 by_cases h8:8<p.length
 ·have h8z:(8:Int)<(p.length:Int):=by omega
  have HR:Hid (5=m):=by have:=HM.out;rw [if_pos h8] at this;exact this
  go_enter Tryz.func161,Tryz.ntmps161
  go_wp2_with fail
  go_ret
  exact ⟨ret_int HR.out,Below.refl _ _⟩
 ·have h8z:¬ (8:Int)<(p.length:Int):=by omega
  rw [if_neg h8] at HM
  cases a1:p.all namedM with
  | false =>
   rw [a1] at H1
   have HR:Hid (2=m):=by have:=HM.out;rw [if_pos a1] at this;exact this
   go_enter Tryz.func161,Tryz.ntmps161
   go_wp2_with (go_at_call 193;refine H1.out.mono ?_;rintro e w1 ⟨rfl,hb1⟩)
   go_ret
   exact ⟨ret_int HR.out,hb1⟩
  | true =>
   rw [a1] at H1
   rw [if_neg (by rw [a1];simp)] at HM
   have H2:Hid (∀W,Below w.heap.size w W→Calls Tryz.prog 193 #[.slice q p.length cap,.func (.func 160) #[] #[]] W fun e w'=>e=.returned (.bool (!p.all rightM))∧Below W.heap.size W w'):=fun W hb=>hasUnm _ p W (Kind.is_kept HV.out hb) HF.out
   have H3:Hid (∀W,Below w.heap.size w W→Calls Tryz.prog 193 #[.slice q p.length cap,.func (.func 195) #[] #[]] W fun e w'=>e=.returned (.bool (!p.all shortM))∧Below W.heap.size W w'):=fun W hb=>hasLng _ p W (Kind.is_kept HV.out hb) HF.out
   cases a2:p.all rightM with
   | false =>
    rw [a2] at H2
    have HR:Hid (1=m):=by have:=HM.out;rw [if_pos a2] at this;exact this
    go_enter Tryz.func161,Tryz.ntmps161
    go_wp2_with (first|(go_at_call 193;refine H1.out.mono ?_;rintro e w1 ⟨rfl,hb1⟩)|(go_at_call 193;refine (H2.out w1 hb1).mono ?_;rintro e w2 ⟨rfl,hb2⟩))
    go_ret
    exact ⟨ret_int HR.out,bel_then hb1 hb1.size hb2⟩
   | true =>
    rw [a2] at H2
    rw [if_neg (by rw [a2];simp)] at HM
    have h12:Hid (∀w1 w2,Below w.heap.size w w1→Below w1.heap.size w1 w2→Below w.heap.size w w2):=fun w1 w2 h k=>bel_then h h.size k
    cases a3:p.all shortM with
    | false =>
     rw [a3] at H3
     have HR:Hid (5=m):=by have:=HM.out;rw [if_pos a3] at this;exact this
     go_enter Tryz.func161,Tryz.ntmps161
     go_wp2_with (first|(go_at_call 193;refine H1.out.mono ?_;rintro e w1 ⟨rfl,hb1⟩)|(go_at_call 193;refine (H2.out w1 hb1).mono ?_;rintro e w2 ⟨rfl,hb2⟩;have hb12:=h12.out _ _ hb1 hb2)|(go_at_call 193;refine (H3.out w2 hb12).mono ?_;rintro e w3 ⟨rfl,hb3⟩))
     go_ret
     exact ⟨ret_int HR.out,bel_then hb12 hb12.size hb3⟩
    | true =>
     rw [a3] at H3
     have HR:Hid (0=m):=by have:=HM.out;rw [if_neg (by rw [a3];simp)] at this;exact this
     go_enter Tryz.func161,Tryz.ntmps161
     go_wp2_with (first|(go_at_call 193;refine H1.out.mono ?_;rintro e w1 ⟨rfl,hb1⟩)|(go_at_call 193;refine (H2.out w1 hb1).mono ?_;rintro e w2 ⟨rfl,hb2⟩;have hb12:=h12.out _ _ hb1 hb2)|(go_at_call 193;refine (H3.out w2 hb12).mono ?_;rintro e w3 ⟨rfl,hb3⟩))
     go_ret
     exact ⟨ret_int HR.out,bel_then hb12 hb12.size hb3⟩
theorem pcells {w:World} {b off:Nat} {p:List Tm} (h:KM.At w b off p) (j:Nat) (u:Value) (hu:(KM.cells p)[j]? = some u):w.cell? ⟨b,off+j,none⟩=some u:=by
 rcases Kind.src (K:=KM) (w:=w) (p:=some ⟨b,off,none⟩) (d:=p) (Or.inr ⟨b,off,rfl,h⟩) with h0|⟨ad,e,hc⟩
 ·obtain rfl:=List.length_eq_zero_iff.1 h0
  simp [Kind.cells] at hu
 ·cases e
  have:=hc j u hu
  rwa [addr_add] at this
set_option maxHeartbeats 2000000 in
set_option maxRecDepth 100000 in
theorem cloneM_any (v:Value) (p:List Tm) (w:World) (hv:KM.Is w v p) (hs:p.length * 40≤140737488355328) :
  Calls Tryz.prog 162 #[v] w fun e w'=>∃u,e=.returned u∧KM.Own w.heap.size w' u p∧Below w.heap.size w w':=by
 obtain ⟨i0,hi,hz0,hz1,hz2⟩:=info_parts Tryz.infoTrm
 obtain ⟨q,cap,rfl,hd⟩:=hv
 have q22:∀(w:World) (a:Option Addr) (n c n' c':Nat),(binOp .eql 39 (.slice a n c) (.slice none n' c')).run Tryz.prog w=.ok (.bool a.isNone) w:=fun w a n c n' c'=>Lib.run_eql_slice_nil w _ _ a n c n' c' Tryz.underlying39
 have HD:=hid hd
 clear hd
 cases q with
 | none =>
  have h0:p=[]:=by
   rcases HD.out with h|⟨b,off,h,_⟩
   ·exact h
   ·cases h
  subst h0
  go_enter Tryz.func162,Tryz.ntmps162
  go_wp2_with fail
  go_ret
  exact ⟨_,rfl,KM.own_nil _ _,Below.refl _ _⟩
 | some a =>
  have hcells:∀j u,(KM.cells p)[j]? = some u→(w.alloc (.cells #[] 49)).cell? (a.add j)=some u:=by
   rcases HD.out with h|⟨b,off,h,hx⟩
   ·subst h;intro j u hj;simp [Kind.cells] at hj
   ·intro j u hj
    obtain rfl:a=⟨b,off,none⟩:=by simpa using h
    rw [addr_add]
    have:=pcells hx j u hj
    rw [World.cell?_alloc_lt _ _ ⟨b,off+j,none⟩ (cell_block this)];exact this
  have HC:=hid hcells
  clear hcells
  go_enter Tryz.func162,Tryz.ntmps162
  go_wp2_with (at_builtin;refine wpList_append_own _ rfl _ _ 39 rfl w.heap.size 49 i0 (.agg #[.string ⟨#[]⟩,.int .i64 0,.string ⟨#[]⟩]) 3 40 Tryz.underlying39 hi hz0 hz1 hz2 rfl (by decide) _ _ _ rfl (World.ownsRow_made w #[] 0 (Nat.le_refl _) (Nat.zero_le _) (by simp)) a p.length cap (KM.cells p) rfl ?c0 ?c1 ?c2 ?c3 ?c4 ?c5 ?_)
  case c0=>exact KM.cells_len p
  case c1=>exact HC.out
  case c2=>exact KM.cells_ones p
  case c3=>unfold maxLen;omega
  case c4=>omega
  case c5=>simp
  intro v' w1 hown hgrow hnil
  have hb1:Below w.heap.size w w1:=((Below.refl _ w).alloc (Nat.le_refl _) _).grown hgrow (by simp) (by intro k hk;simp [Value.ownBlock] at hk;omega)
  have HO:Hid (KM.Own w.heap.size w1 v' p):=hid (by show w1.ownsRow w.heap.size 49 3 v' p.length (KM.cells p);simpa using hown)
  clear hown hgrow hnil
  go_wp2_with fail
  go_ret
  exact ⟨_,rfl,HO.out,hb1⟩
set_option maxHeartbeats 2000000 in
theorem sortM_none (fv:Value) (w:World) :
  Calls Tryz.prog 163 #[.slice none 0 0,fv] w fun e w'=>e=.returned (.tuple #[])∧w'=w:=by
 have hi:∀W,Calls Tryz.prog 216 #[.slice none 0 0,.int .i64 0,.int .i64 0,fv] W fun e w'=>e=.returned (.tuple #[])∧w'=W:=fun W=>by
  go_enter Tryz.func216,Tryz.ntmps216
  go_wp2_with fail
  refine wp_loop_rounds 1 ?_
  rw [rounds_succ]
  go_wp2_with fail
  go_end0
  exact ⟨rfl,rfl⟩
 have HI:=hid hi
 clear hi
 have hp:∀(l:Int) W,Calls Tryz.prog 196 #[.slice none 0 0,.int .i64 0,.int .i64 0,.int .i64 l,fv] W fun e w'=>e=.returned (.tuple #[])∧w'=W:=fun l W=>by
  go_enter Tryz.func196,Tryz.ntmps196
  go_wp2_with fail
  refine wp_loop_rounds 1 ?_
  rw [rounds_succ]
  go_wp2_with (first|(go_at_call 216;refine (HI.out _).mono ?_;rintro e w1 ⟨rfl,rfl⟩))
  refine bodyPost_ret (results_none (h:=Tryz.results196) _ _ _) rfl ?_
  exact ⟨rfl,rfl⟩
 have HP:=hid hp
 clear hp
 go_enter Tryz.func163,Tryz.ntmps163
 go_wp2_with (first|(go_at_call 197;refine (Tryz.bits_Len 0 _ (by omega) (by omega)).mono ?_;rintro e w1 ⟨rfl,rfl⟩)|(go_at_call 196;refine (HP.out _ _).mono ?_;rintro e w1 ⟨rfl,rfl⟩))
 go_end0
 exact ⟨rfl,rfl⟩
set_option maxHeartbeats 1000000 in
theorem compM_none (w:World) :
  Calls Tryz.prog 165 #[.slice none 0 0] w fun e w'=>e=.returned (.slice none 0 0)∧w'=w:=by
 go_enter Tryz.func165,Tryz.ntmps165
 go_wp2_with fail
 go_ret
 exact ⟨rfl,rfl⟩
theorem sort_own (n0:Nat) (u:Value) (p:List Tm) (w:World) (h:KM.Own n0 w u p) (h0:n0≤w.heap.size) (h12:p.length≤12) :
  Calls Tryz.prog 163 #[u,.func (.func 164) #[] #[]] w fun e w' =>
   e=.returned (.tuple #[])∧∃d':Array Tm,d'.toList.Perm p∧SortedIn (ltOf cmpM) 0 d'.size d'∧KM.Own n0 w' u d'.toList∧Below n0 w w':=by
 rcases h.2 with ⟨rfl,hl⟩|⟨g,cap,cur,rfl,_⟩
 ·obtain rfl:=List.length_eq_zero_iff.1 hl
  refine (sortM_none _ w).mono ?_
  rintro e w' ⟨rfl,rfl⟩
  exact ⟨rfl,#[],List.Perm.refl _,fun i j _ _ hj=>absurd hj (Nat.not_lt_zero _),KM.own_nil _ _,Below.refl _ _⟩
 ·refine (sortM_rows n0 g p.length cap p w h rfl h0 h12).mono ?_
  rintro e w' ⟨rfl,d',_,h2,h3,h4,h5⟩
  exact ⟨rfl,d',h2,h3,h4,h5⟩
theorem comp_own (n0:Nat) (u:Value) (d:Array Tm) (w:World) (h:KM.Own n0 w u d.toList) (h0:n0≤w.heap.size) (h12:d.size≤12) :
  Calls Tryz.prog 165 #[u] w fun e w'=>∃u',e=.returned u'∧KM.Own n0 w' u' (compactUpTo d d.size)∧Below n0 w w':=by
 rcases h.2 with ⟨rfl,hl⟩|⟨g,cap,cur,rfl,_⟩
 ·have hz:d.size=0:=by simpa using hl
  refine (compM_none w).mono ?_
  rintro e w' ⟨rfl,rfl⟩
  refine ⟨_,rfl,?_,Below.refl _ _⟩
  rw [hz]
  exact KM.own_nil _ _
 ·refine (compact_any n0 g d.toList.length cap d w h (by simp) h0 (by simp;omega)).mono ?_
  rintro e w' ⟨rfl,h1,h2⟩
  exact ⟨_,rfl,h1,h2⟩
set_option maxHeartbeats 2000000 in
set_option maxRecDepth 100000 in
theorem pnorm_any (v:Value) (p:List Tm) (w:World) (hv:KM.Is w v p) (hf:FitM p) :
  Calls Tryz.prog 117 #[v] w fun e w'=>NMPost w p e w':=by
 have HM:=hid (pmay_any v p w hv hf)
 by_cases hm:mayM p=0
 ·have h8:=(mayM_zero hm).1
  have HA:Hid (ansM p=sortM p):=by show _=_;unfold ansM;rw [if_pos hm]
  rw [hm] at HM
  have HM0:=hid hm
  have HC:Hid (∀W:World,Below w.heap.size w W→Calls Tryz.prog 162 #[v] W fun e w'=>∃u,e=.returned u∧KM.Own W.heap.size w' u p∧Below W.heap.size W w'):=fun W hb=>cloneM_any v p W (Kind.is_kept hv hb) (by omega)
  clear hv hf hm
  go_enter Tryz.func117,Tryz.ntmps117
  go_wp2_with (first
   | (go_at_call 161;refine HM.out.mono ?_;rintro e w1 ⟨rfl,hb1⟩)
   | (go_at_call 162;refine (HC.out w1 hb1).mono ?_;rintro e w2 ⟨u2,rfl,ho2,hb2⟩;have HO2:=hid ho2;clear ho2)
   | (go_at_call 163;refine (sort_own w1.heap.size u2 p w2 HO2.out hb2.size (by omega)).mono ?_;rintro e w3 ⟨rfl,d3,hp3,hs3,ho3,hb3⟩;have HO3:=hid ho3;have HP3:=hid hp3;have HS3:=hid hs3;have hl3:d3.size≤8:=(by have:=HP3.out.length_eq;rw [Array.length_toList] at this;omega);clear ho3 hp3 hs3)
   | (go_at_call 165;refine (comp_own w1.heap.size u2 d3 w3 HO3.out (Nat.le_trans hb2.size hb3.size) (by omega)).mono ?_;rintro e w4 ⟨u4,rfl,ho4,hb4⟩;have HO4:=hid ho4;clear ho4))
  go_ret2
  refine ⟨⟨u4,by rw [HM0.out];rfl,?_⟩,?_⟩
  ·rw [HA.out]
   obtain ⟨r1,r2⟩:=compact_sorted HS3.out
   have e:=sortM_unique (p:=p) r1 (fun x=>(r2 x).trans HP3.out.mem_iff)
   rw [←e]
   exact Kind.own_weak HO4.out hb1.size
  ·exact ((hb1.trans (hb2.mono hb1.size)).trans (hb3.mono hb1.size)).trans (hb4.mono hb1.size)
 ·have hne:(mayM p != 0)=true:=by rw [bne_iff_ne];exact hm
  have HA:Hid (ansM p=[]):=by show _=_;unfold ansM;rw [if_neg hm]
  obtain ⟨M,hM⟩:∃M,mayM p=M:=⟨_,rfl⟩
  rw [hM] at HM hne
  have HMM:=hid hM
  clear hv hf hm hM
  go_enter Tryz.func117,Tryz.ntmps117
  go_wp2_with (first|(go_at_call 161;refine HM.out.mono ?_;rintro e w1 ⟨rfl,hb1⟩))
  go_ret2
  refine ⟨⟨.slice none 0 0,by rw [HMM.out];rfl,?_⟩,hb1⟩
  rw [HA.out]
  exact KM.own_nil _ _
theorem neqM_at:NeqAt Tryz.prog 49 (fun x:Tm=>.agg (encM x).toArray) (fun x y=>decide (x=y)) :=
 ⟨fun x y w=>neq_term x y w,GuardAt.agg (fun x:Tm=>(encM x).toArray) (by kernel_rfl)⟩
theorem allEq_decide:∀(p q:List Tm),Lib.allEq (fun x y=>decide (x=y)) p q=decide (p=q)
 | [],[]=>rfl
 | [],y::q=>by simp [Lib.allEq]
 | x::p,[]=>by simp [Lib.allEq]
 | x::p,y::q=>by
  have:=allEq_decide p q
  unfold Lib.allEq
  rw [this]
  by_cases h1:x=y<;>by_cases h2:p=q<;>simp [h1,h2]
set_option maxHeartbeats 1000000 in
theorem eqM_none1 (q1 q2:Option Addr) (c1 c2 m:Nat) (hm:m≤maxLen) (w:World) :
  Calls Tryz.prog 103 #[.slice q1 0 c1,.slice q2 m c2] w fun e w'=>e=.returned (.bool (decide (m=0)))∧w'=w:=by
 unfold maxLen at hm
 by_cases h0:m=0
 ·subst h0
  go_enter Tryz.func103,Tryz.ntmps103
  go_wp2_with fail
  refine wp_loop_rounds 1 ?_
  rw [rounds_succ]
  go_wp2_with fail
  go_ret
  exact ⟨rfl,rfl⟩
 ·have hz:((0:Int) != (m:Int))=true:=by simp;omega
  have hd:=decide_eq_false h0
  rw [hd]
  go_enter Tryz.func103,Tryz.ntmps103
  go_wp2_with fail
  go_ret
  exact ⟨rfl,rfl⟩
set_option maxHeartbeats 1000000 in
theorem eqM_none2 (q1 q2:Option Addr) (c1 c2 m:Nat) (hm:m≠0) (w:World) :
  Calls Tryz.prog 103 #[.slice q1 m c1,.slice q2 0 c2] w fun e w'=>e=.returned (.bool false)∧w'=w:=by
 have hz:((m:Int) != 0)=true:=by simp;omega
 go_enter Tryz.func103,Tryz.ntmps103
 go_wp2_with fail
 go_ret
 exact ⟨rfl,rfl⟩
theorem eqM_any (v u:Value) (p q:List Tm) (w:World) (hv:KM.Is w v p) (hu:KM.Is w u q) (hl1:p.length≤maxLen) (hl2:q.length≤maxLen) :
  Calls Tryz.prog 103 #[v,u] w fun e w'=>e=.returned (.bool (decide (p=q)))∧∃n,w'=w.drewN n:=by
 obtain ⟨a1,k1,rfl,hd1⟩:=hv
 obtain ⟨a2,k2,rfl,hd2⟩:=hu
 by_cases h1:p=[]
 ·subst h1
  refine (eqM_none1 a1 a2 k1 k2 q.length hl2 w).mono ?_
  rintro e w' ⟨rfl,rfl⟩
  refine ⟨ret_bool ?_,0,rfl⟩
  cases q<;>simp
 ·by_cases h2:q=[]
  ·subst h2
   refine (eqM_none2 a1 a2 k1 k2 p.length (fun e=>h1 (List.length_eq_zero_iff.1 e)) w).mono ?_
   rintro e w' ⟨rfl,rfl⟩
   exact ⟨ret_bool (by rw [decide_eq_false h1]),0,rfl⟩
  ·rcases hd1 with hd1|⟨b1,o1,rfl,x1⟩
   ·exact absurd hd1 h1
   ·rcases hd2 with hd2|⟨b2,o2,rfl,x2⟩
    ·exact absurd hd2 h2
    ·unfold maxLen at hl1 hl2
     have hc:=AnyQ.slices_Equal (α:=Tm) Tryz.eqTrm 3 Tryz.isAgg49 Tryz.sizeOf49 encM (fun _=>rfl) (fun x y=>decide (x=y)) neqM_at b1 o1 p.length k1 b2 o2 q.length k2 p q w (Nat.le_refl _) (Nat.le_refl _) (by omega) (by omega)
      (fun j hj i v hv=>by rw [getElem!_pos p j hj] at hv;exact km_enc x1 j hj i v hv) (fun j hj i v hv=>by rw [getElem!_pos q j hj] at hv;exact km_enc x2 j hj i v hv)
     change Calls Tryz.prog 103 _ _ _ at hc
     refine hc.mono ?_
     rintro e w' ⟨rfl,n,rfl⟩
     exact ⟨ret_bool (by rw [List.take_length,List.take_length,allEq_decide]),n,rfl⟩
set_option maxHeartbeats 1000000 in
theorem pequal_any (v u:Value) (p q:List Tm) (w:World) (hv:KM.Is w v p) (hu:KM.Is w u q) (hl1:p.length≤maxLen) (hl2:q.length≤maxLen) :
  Calls Tryz.prog 59 #[v,u] w fun e w'=>e=.returned (.bool (decide (p=q)))∧Below w.heap.size w w':=by
 have HE:=hid (eqM_any v u p q w hv hu hl1 hl2)
 clear hv hu
 go_enter Tryz.func59,Tryz.ntmps59
 go_wp2_with (go_at_call 103;refine HE.out.mono ?_;rintro e w1 ⟨rfl,n,rfl⟩)
 go_ret
 exact ⟨rfl,bel_drewN (Below.refl _ _) n⟩
end
section
open Go.RowKit Go.Lib
def BoxM (w:World) (g:Nat) (x:Tm):Prop:=w.heap[g]? = some (.cells #[.string x.1,.int .i64 x.2.1,.string x.2.2] 49 (0,0))
theorem BoxM.cells {w:World} {g:Nat} {x:Tm} (h:BoxM w g x):w.cell? ⟨g,0,none⟩=some (.string x.1)∧w.cell? ⟨g,1,none⟩=some (.int .i64 x.2.1)∧w.cell? ⟨g,2,none⟩=some (.string x.2.2):=by
 rw [Lib.cell_of_heap h,Lib.cell_of_heap h,Lib.cell_of_heap h]
 exact ⟨rfl,rfl,rfl⟩
theorem BoxM.lt {w:World} {g:Nat} {x:Tm} (h:BoxM w g x):g<w.heap.size:=(Array.getElem?_eq_some_iff.1 h).1
theorem BoxM.on {w w':World} {g:Nat} {x:Tm} (h:BoxM w g x) (hb:Below w.heap.size w w'):BoxM w' g x:=(hb.block g h.lt).trans h
theorem boxM_new (w:World) (x:Tm):BoxM (w.alloc (.cells #[.string x.1,.int .i64 x.2.1,.string x.2.2] 49)) w.heap.size x:=heap_alloc_new w _
end
section
open Go.RowKit Go.Lib Go.ChangeMaps
def signsA:ByteArray:=⟨#[61,33,94,60,62,63,45]⟩
theorem signs_op (c:UInt8):signsA.data.toList.contains c=isOp c:=by
 rw [Bool.eq_iff_iff]
 constructor
 ·intro h
  have:c∈signsA.data.toList:=by simpa using h
  simp [signsA] at this
  rcases this with rfl|rfl|rfl|rfl|rfl|rfl|rfl<;>decide
 ·intro h
  rcases op_sign h with rfl|rfl|rfl|rfl|rfl|rfl|rfl<;>decide
def FirstOp (l:List UInt8) (k:Int):Prop:=(k=-1∧∀c∈l,isOp c=false)∨∃i:Nat,k=i∧∃h:i<l.length,isOp l[i]=true∧∀c∈l.take i,isOp c=false
theorem indexAny_first:∀l:List UInt8,FirstOp l (Lib.indexAny l signsA.data.toList)
 | []=>Or.inl ⟨rfl,fun c hc=>by simp at hc⟩
 | b::l=>by
  have ih:=indexAny_first l
  unfold Lib.indexAny
  rw [signs_op]
  cases hb:isOp b with
  | true =>
   rw [if_pos rfl]
   exact Or.inr ⟨0,rfl,by simp,hb,fun c hc=>by simp at hc⟩
  | false =>
   rw [if_neg (by simp)]
   rcases ih with ⟨h1,h2⟩|⟨i,h1,hi,h3,h4⟩
   ·rw [h1]
    refine Or.inl ⟨rfl,fun c hc=>?_⟩
    rcases List.mem_cons.1 hc with rfl|hc
    ·exact hb
    ·exact h2 c hc
   ·rw [h1]
    have:((i:Int) == -1)=false:=by simp
    rw [this,if_neg (by simp)]
    refine Or.inr ⟨i+1,rfl,by simpa using hi,by simpa using h3,fun c hc=>?_⟩
    rw [List.take_succ_cons] at hc
    rcases List.mem_cons.1 hc with rfl|hc
    ·exact hb
    ·exact h4 c hc
theorem get_at (s:ByteArray) (i:Nat) (h:i<s.size):s.get! i=s[i]'h:=by
 simp [ByteArray.get!,getElem!_pos,h]
 rfl
theorem dec_high (s:ByteArray) (pos:Nat) (h:pos<s.size) (hb:128≤(s[pos]'h).toNat) :
  128≤(Utf8.decode s pos).1∧(Utf8.decode s pos).1≤2097151∧1≤(Utf8.decode s pos).2∧pos+(Utf8.decode s pos).2≤s.size∧∀j,pos≤j→j<pos+(Utf8.decode s pos).2→128≤(s.get! j).toNat:=by
 have e0:(s.get! (pos+0)).toNat=(s[pos]'h).toNat:=by rw [Nat.add_zero,get_at s pos h]
 have hlt:∀k,(s.get! (pos+k)).toNat<256:=fun k=>UInt8.toNat_lt _
 have hcont:∀k,(decide (pos+k<s.size)&&(s.get! (pos+k)).toNat / 64==2)=true→pos+k<s.size∧128≤(s.get! (pos+k)).toNat:=fun k hk=>by
  rw [Bool.and_eq_true] at hk
  have h1:=of_decide_eq_true hk.1
  have h2:=beq_iff_eq.1 hk.2
  exact ⟨h1,by omega⟩
 have hp0:128≤(s.get! pos).toNat:=by rw [get_at s pos h];exact hb
 have hone:∀j,pos≤j→j<pos+1→128≤(s.get! j).toNat:=fun j h1 h2=>by
  have:j=pos:=by omega
  subst this;exact hp0
 have herr:(128≤Utf8.runeError)∧Utf8.runeError≤2097151:=by decide
 unfold Utf8.decode
 simp only [e0]
 have h80:¬ (s[pos]'h).toNat<128:=by omega
 rw [if_neg h80]
 have hbound:(s[pos]'h).toNat<256:=UInt8.toNat_lt _
 have l1:=hlt 1
 have l2:=hlt 2
 have l3:=hlt 3
 split
 ·rename_i h1
  rw [Bool.and_eq_true] at h1
  obtain ⟨c1,c2⟩:=hcont 1 h1.2
  split
  ·rename_i h2
   refine ⟨h2,by omega,by omega,by omega,fun j g1 g2=>?_⟩
   rcases (show j=pos∨j=pos+1 by omega) with rfl|rfl
   ·exact hp0
   ·exact c2
  ·exact ⟨herr.1,herr.2,by omega,by omega,hone⟩
 ·split
  ·rename_i h1
   rw [Bool.and_eq_true,Bool.and_eq_true] at h1
   obtain ⟨c1,c2⟩:=hcont 1 h1.1.2
   obtain ⟨d1,d2⟩:=hcont 2 h1.2
   split
   ·rename_i h2
    rw [Bool.and_eq_true] at h2
    have h3:=of_decide_eq_true h2.1
    refine ⟨by omega,by omega,by omega,by omega,fun j g1 g2=>?_⟩
    rcases (show j=pos∨j=pos+1∨j=pos+2 by omega) with rfl|rfl|rfl
    ·exact hp0
    ·exact c2
    ·exact d2
   ·exact ⟨herr.1,herr.2,by omega,by omega,hone⟩
  ·split
   ·rename_i h1
    rw [Bool.and_eq_true,Bool.and_eq_true,Bool.and_eq_true] at h1
    obtain ⟨c1,c2⟩:=hcont 1 h1.1.1.2
    obtain ⟨d1,d2⟩:=hcont 2 h1.1.2
    obtain ⟨f1,f2⟩:=hcont 3 h1.2
    split
    ·rename_i h2
     rw [Bool.and_eq_true] at h2
     have h3:=of_decide_eq_true h2.1
     refine ⟨by omega,by omega,by omega,by omega,fun j g1 g2=>?_⟩
     rcases (show j=pos∨j=pos+1∨j=pos+2∨j=pos+3 by omega) with rfl|rfl|rfl|rfl
     ·exact hp0
     ·exact c2
     ·exact d2
     ·exact f2
    ·exact ⟨herr.1,herr.2,by omega,by omega,hone⟩
   ·exact ⟨herr.1,herr.2,by omega,by omega,hone⟩
theorem enc_last (r:Int) (h:128≤r):∃m:Nat,1≤m∧m≤3∧∃hs:(Utf8.encode r).size=m+1,128≤((Utf8.encode r)[m]'(by omega)).toNat:=by
 have hof:∀n:Nat,128≤n→n<256→128≤(UInt8.ofNat n).toNat:=fun n h1 h2=>by
  rw [UInt8.toNat_ofNat_of_lt' (by simpa using h2)];exact h1
 unfold Utf8.encode
 obtain ⟨c,hc⟩:∃c,(if Utf8.valid r=true then r.toNat else Utf8.runeError)=c:=⟨_,rfl⟩
 have hc128:128≤c:=by
  rw [←hc]
  split
  ·omega
  ·decide
 simp only [hc]
 have h0:¬ c<128:=by omega
 simp only [if_neg h0]
 by_cases h1:c<2048
 ·simp only [if_pos h1]
  exact ⟨1,by omega,by omega,rfl,hof _ (by omega) (by omega)⟩
 ·simp only [if_neg h1]
  by_cases h2:c<65536
  ·simp only [if_pos h2]
   exact ⟨2,by omega,by omega,rfl,hof _ (by omega) (by omega)⟩
  ·simp only [if_neg h2]
   exact ⟨3,by omega,by omega,rfl,hof _ (by omega) (by omega)⟩
theorem run_next_at (W:World) (N:Nat) (s:ByteArray) (pos:Nat) (ty:TypeId) (hN:W.heap[N]? = some (.stringIter s pos)) (h:pos<s.size) :
  (Instr.next (.pointer (some ⟨N,0,none⟩)) true ty).run Tryz.prog W =
   .ok (.tuple #[.bool true,.int .i64 pos,.int .i32 (Utf8.decode s pos).1]) (setBlock W N (.stringIter s (pos+(Utf8.decode s pos).2))):=by
 have hlt:=(Array.getElem?_eq_some_iff.1 hN).1
 simp [Instr.next,getObj,setObj,Sem.run,hN,h,goInt,Result.andThen,setBlock]
theorem run_next_stop (W:World) (N:Nat) (s:ByteArray) (pos:Nat) (ty:TypeId) (hN:W.heap[N]? = some (.stringIter s pos)) (h:¬ pos<s.size) :
  (Instr.next (.pointer (some ⟨N,0,none⟩)) true ty).run Tryz.prog W=.ok (.tuple #[.bool false]) W:=by
 simp [Instr.next,getObj,Sem.run,hN,h,Result.andThen]
theorem signs_low (x:UInt8) (h:x∈(⟨#[61,33,94,60,62,63,45]⟩:ByteArray).data.toList):x.toNat<128:=by
 simp at h
 rcases h with rfl|rfl|rfl|rfl|rfl|rfl|rfl<;>decide
set_option maxHeartbeats 4000000 in
set_option maxRecDepth 100000 in
theorem ixrune_err (w:World) :
  Calls Tryz.prog 189 #[.string ⟨#[61,33,94,60,62,63,45]⟩,.int .i32 65533] w fun e w'=>e=.returned (.int .i64 (-1))∧Grown w w':=by
 obtain ⟨s,hs⟩:∃s:ByteArray,⟨#[61,33,94,60,62,63,45]⟩=s:=⟨_,rfl⟩
 have h7:s.size=7:=by rw [←hs];rfl
 have hlow:∀(i:Nat) (h:i<s.size),(s[i]'h).toNat<128:=by
  subst hs
  intro i h
  exact signs_low _ (List.getElem_mem (l:=(⟨#[61,33,94,60,62,63,45]⟩:ByteArray).data.toList) (n:=i) h)
 rw [hs]
 clear hs
 go_enter Tryz.func189,Tryz.ntmps189
 go_wp2_with fail
 go_loopg [5,6] 7 (fun g _ _ wx=>∃i:Nat,i+g=7∧wx=w.iter s i)
 case atStart=>exact ⟨0,by omega,rfl⟩
 case round =>
  obtain ⟨i,hig,rfl⟩:=hrel
  cases gk with
  | zero =>
   have hnx:=fun ty=>run_next_end (P:=Tryz.prog) w s i ty (by omega)
   go_wp2_with fail
   go_ret
   exact ⟨rfl,(Grown.refl _).alloc _⟩
  | succ g =>
   have hi:i<s.size:=by omega
   have hx:=hlow i hi
   have hnx:=fun ty=>run_next_ascii (P:=Tryz.prog) w s i ty hi hx
   have hne:(((s[i]'hi).toNat:Int)==65533)=false:=by simp;omega
   clear hlow
   go_wp2_with fail
   go_roundg g
   case measure=>omega
   case rel=>exact ⟨i+1,by omega,rfl⟩
set_option maxHeartbeats 4000000 in
set_option maxRecDepth 100000 in
theorem ixrune_valid (r:Int) (h1:128≤r) (h2:r≤2097151) (hv:Lib.validRune r=true) (hne:r≠65533) (w:World) :
  Calls Tryz.prog 189 #[.string ⟨#[61,33,94,60,62,63,45]⟩,.int .i32 r] w fun e w'=>e=.returned (.int .i64 (-1))∧Grown w w':=by
 obtain ⟨m,hm1,hm3,hs,hb⟩:=enc_last r h1
 obtain ⟨pat,hpat⟩:∃pat,Utf8.encode r=pat:=⟨_,rfl⟩
 simp only [hpat] at hs hb
 obtain ⟨b,hbe⟩:∃b,pat[m]'(by omega)=b:=⟨_,rfl⟩
 rw [hbe] at hb
 have hz:(0:Int)≤r:=by omega
 have h128:decide (r<128)=false:=decide_eq_false (by omega)
 have hne':(r==65533)=false:=by simpa using hne
 have HV:=hid hv
 obtain ⟨s,hse⟩:∃s:ByteArray,⟨#[61,33,94,60,62,63,45]⟩=s:=⟨_,rfl⟩
 have h7:s.size=7:=by rw [←hse];rfl
 have hlow:∀x∈s.data.toList,x.toNat<128:=by subst hse;exact signs_low
 rw [hse]
 clear hv hne hse
 have hback:((b.toNat:Int)).toNat.toUInt8=b:=by simp
 have HIX:Hid (∀W k,Calls Tryz.prog 159 #[.string (s.extract k s.size),.int .u8 b.toNat] W fun e w'=>e=.returned (.int .i64 (-1))∧w'=W):=fun W k=>by
  have:=Tryz.strings_IndexByte (s.extract k s.size) b.toNat W
  rw [hback,ix_none (fun hc=>by
   have hm:b∈s.data.toList:=by
    have e:(s.extract k s.size).data.toList=s.data.toList.drop k:=by
     have:=ext_drop s k
     exact this
    rw [e] at hc
    exact List.mem_of_mem_drop hc
   have:=hlow b hm
   omega)] at this
  exact this
 have hsm:m<s.size:=by omega
 obtain ⟨c,hce⟩:∃c,s[m]'hsm=c:=⟨_,rfl⟩
 have hc:c.toNat<128:=by
  rw [←hce]
  exact hlow _ (List.getElem_mem (l:=s.data.toList) (n:=m) (by simpa using hsm))
 have hx:((c.toNat:Int) != (b.toNat:Int))=true:=by simp;omega
 have hmz:(0:Int)≤m:=by omega
 have hms:(m:Int)<(s.size:Int):=by omega
 have hmp:(m:Int)<(pat.size:Int):=by omega
 have hpz:(pat.size:Int)-1=(m:Int):=by omega
 have hww:IntKind.i64.wrap ((m:Int)+1)=(m:Int)+1:=wrap_i64 _ (by omega) (by omega)
 have hm1s:(m:Int)+1≤(s.size:Int):=by omega
 have hm0z:(0:Int)≤(m:Int)+1:=by omega
 have hmt:((m:Int)+1).toNat=m+1:=by omega
 have hmp2:m<pat.size:=by omega
 have hbe2:pat[m]'hmp2=b:=hbe
 clear hbe
 clear h7 hs
 clear hlow
 go_enter Tryz.func189,Tryz.ntmps189
 go_wp2_with (first|(go_at_call 214;refine (Tryz.utf8_ValidRune _ _).mono ?_;rintro e w1 ⟨rfl,rfl⟩;rw [HV.out]))
 go_step3
 go_wp2_with fail
 refine wp_loop_rounds 1 ?_
 rw [rounds_succ]
 go_wp2_with fail
 go_step3
 go_wp2_with fail
 go_quiet (fail)
 go_wp2_with fail
 have hG2:=Grown.draws w1 nq
 generalize w1.drewN nq=W2 at hG2 ⊢
 go_quiet (first|(go_at_call 159;refine Calls.quiet_of_same (HIX.out _ _)))
 go_wp2_with fail
 repeat (first|rw [Exit.noGoto_ret]|simp only [Exit.inBlock,Exit.then])
 go_ret
 exact ⟨rfl,hG2.drewN _⟩
set_option maxHeartbeats 2000000 in
set_option maxRecDepth 100000 in
theorem ixrune_none (r:Int) (h1:128≤r) (h2:r≤2097151) (w:World) :
  Calls Tryz.prog 189 #[.string ⟨#[61,33,94,60,62,63,45]⟩,.int .i32 r] w fun e w'=>e=.returned (.int .i64 (-1))∧Grown w w':=by
 by_cases hne:r=65533
 ·subst hne;exact ixrune_err w
 ·cases hv:Lib.validRune r with
  | true=>exact ixrune_valid r h1 h2 hv hne w
  | false =>
   have h128:decide (r<128)=false:=decide_eq_false (by omega)
   have hz:(0:Int)≤r:=by omega
   have hne':(r==65533)=false:=by simpa using hne
   have HV:=hid hv
   clear hv hne
   go_enter Tryz.func189,Tryz.ntmps189
   go_wp2_with (first|(go_at_call 214;refine (Tryz.utf8_ValidRune _ _).mono ?_;rintro e w1 ⟨rfl,rfl⟩;rw [HV.out]))
   repeat (first|rw [Exit.noGoto_ret]|simp only [Exit.inBlock,Exit.then])
   go_ret
   exact ⟨rfl,Grown.refl _⟩
def ItAt (W:World) (N:Nat) (s:ByteArray) (pos:Nat):Prop:=W.heap[N]? = some (.stringIter s pos)
theorem it_step {w W:World} {s:ByteArray} {pos:Nat} (h:ItAt W w.heap.size s pos) (hb:Below w.heap.size w W) (p':Nat) :
  ItAt (setBlock W w.heap.size (.stringIter s p')) w.heap.size s p'∧Below w.heap.size w (setBlock W w.heap.size (.stringIter s p')):=by
 have hlt:=(Array.getElem?_eq_some_iff.1 h).1
 refine ⟨by unfold ItAt setBlock;simp [hlt],hb.os,hb.tape,hb.output,by simpa [setBlock] using hb.size,fun k hk=>?_⟩
 refine Eq.trans ?_ (hb.block k hk)
 show (W.heap.setIfInBounds w.heap.size _)[k]? = _
 rw [Array.getElem?_setIfInBounds,if_neg (by omega)]
set_option maxHeartbeats 4000000 in
set_option maxRecDepth 100000 in
theorem ixany_short (s:ByteArray) (w:World) (h8:s.size≤8) :
  Calls Tryz.prog 158 #[.string s,.string ⟨#[61,33,94,60,62,63,45]⟩] w fun e w'=>(∃k,e=.returned (.int .i64 k)∧FirstOp s.data.toList k)∧Below w.heap.size w w':=by
 have h8z:decide ((8:Int)<(s.size:Int))=false:=decide_eq_false (by omega)
 obtain ⟨cs,hcs⟩:∃cs:ByteArray,⟨#[61,33,94,60,62,63,45]⟩=cs:=⟨_,rfl⟩
 have HCS:=hid hcs
 have hemp:cs.toList.isEmpty=false:=sfull_of (by rw [←hcs];decide)
 have hn1:((cs.size:Int)==1)=false:=by rw [←hcs];rfl
 rw [hcs]
 clear hcs
 go_enter Tryz.func158,Tryz.ntmps158
 go_wp2_with (go_at_call 190;refine (Tryz.strings_shouldUseASCIISet _ _).mono ?_;rintro e w' ⟨rfl,hw⟩;rw [hw,h8z])
 go_loopg [9,10] s.size (fun g _ _ wx=>∃i:Nat,i≤s.size∧s.size-i≤g∧Hid (ItAt wx w.heap.size s i)∧Hid (Below w.heap.size w wx)∧Hid (∀c∈s.data.toList.take i,isOp c=false))
 case atStart=>exact ⟨0,by omega,by omega,World.iter_heap _ _ _,(Below.refl _ _).alloc (Nat.le_refl _) _,fun c hc=>by simp at hc⟩
 case round =>
  obtain ⟨i,hi,hg,HI,HB,HN⟩:=hrel
  by_cases hlt:i<s.size
  ·have hil:i<s.data.toList.length:=by simpa using hlt
   have hnx:=fun ty=>run_next_at wr w.heap.size s i ty HI.out hlt
   obtain ⟨x,hx⟩:∃x:UInt8,s[i]'hlt=x:=⟨_,rfl⟩
   have hxl:s.data.toList[i]=x:=hx
   by_cases hx128:x.toNat<128
   ·have hdec:=decode_ascii s i hlt (by rw [hx];exact hx128)
    rw [hx] at hdec
    rw [hdec] at hnx
    obtain ⟨hi2,hb2⟩:=it_step HI.out HB.out (i+1)
    simp only at hnx
    obtain ⟨W1,hW1⟩:∃W1,setBlock wr w.heap.size (.stringIter s (i+1))=W1:=⟨_,rfl⟩
    rw [hW1] at hnx hi2 hb2
    have HI2:=hid hi2
    have HB2:=hid hb2
    have HXL:=hid hxl
    have hback:((x.toNat:Int)).toNat.toUInt8=x:=by simp
    have hcon:=Lib.contains_iff_indexByte cs.data.toList x
    have e1:cs.data.toList.contains x=isOp x:=by rw [←HCS.out];exact signs_op x
    rw [e1] at hcon
    cases hop:isOp x with
    | true =>
     rw [hop] at hcon
     have hge:(0:Int)≤Lib.indexByte cs.data.toList x:=of_decide_eq_true hcon.symm
     have HF:Hid (FirstOp s.data.toList (i:Int)):=Or.inr ⟨i,rfl,hil,by rw [hxl];exact hop,HN.out⟩
     clear hcon e1 hxl hx hW1 hi2 hb2 hdec hop
     go_wp2_with (go_at_call 189;refine (Tryz.strings_IndexRune_ascii _ _ _ (by omega) (by omega)).mono ?_;rintro e w' ⟨rfl,hw⟩;rw [hw,hback])
     go_ret
     exact ⟨⟨_,rfl,HF.out⟩,HB2.out⟩
    | false =>
     rw [hop] at hcon
     have hge:¬ ((0:Int)≤Lib.indexByte cs.data.toList x):=of_decide_eq_false hcon.symm
     have HF:Hid (∀c∈s.data.toList.take (i+1),isOp c=false):=fun c hc=>by
      rw [List.take_succ_eq_append_getElem hil,List.mem_append,List.mem_singleton] at hc
      rcases hc with hc|hc
      ·exact HN.out c hc
      ·rw [hc,hxl];exact hop
     clear hcon e1 hxl hx hW1 hi2 hb2 hdec hop
     go_wp2_with (go_at_call 189;refine (Tryz.strings_IndexRune_ascii _ _ _ (by omega) (by omega)).mono ?_;rintro e w' ⟨rfl,hw⟩;rw [hw,hback])
     go_roundg (s.size-(i+1))
     case measure=>omega
     case rel=>exact ⟨i+1,by omega,by omega,HI2,HB2,HF⟩
   ·obtain ⟨r1,r2,r3,r4,r5⟩:=dec_high s i hlt (by rw [hx];omega)
    obtain ⟨hi2,hb2⟩:=it_step HI.out HB.out (i+(Utf8.decode s i).2)
    obtain ⟨r,hr⟩:∃r,(Utf8.decode s i).1=r:=⟨_,rfl⟩
    obtain ⟨k,hk⟩:∃k,(Utf8.decode s i).2=k:=⟨_,rfl⟩
    rw [hr,hk] at hnx
    rw [hr] at r1 r2
    rw [hk] at r3 r4 r5 hi2 hb2
    obtain ⟨W1,hW1⟩:∃W1,setBlock wr w.heap.size (.stringIter s (i+k))=W1:=⟨_,rfl⟩
    rw [hW1] at hnx hi2 hb2
    have HF:Hid (∀c∈s.data.toList.take (i+k),isOp c=false):=fun c hc=>by
     obtain ⟨j,hj,rfl⟩:=List.mem_iff_getElem.1 hc
     rw [List.length_take] at hj
     rw [List.getElem_take]
     by_cases hji:j<i
     ·exact HN.out _ (List.mem_iff_getElem.2 ⟨j,by rw [List.length_take];omega,by rw [List.getElem_take]⟩)
     ·have hjs:j<s.size:=by have:=hj;simp at this;omega
      have h128:=r5 j (by omega) (by omega)
      rw [get_at s j hjs] at h128
      have e:s.data.toList[j]'(by simpa using hjs)=s[j]'hjs:=rfl
      rw [e]
      cases hop:isOp (s[j]'hjs) with
      | false=>rfl
      | true=>rcases op_sign hop with h|h|h|h|h|h|h<;>(rw [h] at h128;exact absurd h128 (by decide))
    have HIR:Hid (Calls Tryz.prog 189 #[.string cs,.int .i32 r] W1 fun e w'=>e=.returned (.int .i64 (-1))∧Grown W1 w'):=by
     show Calls _ _ _ _ _
     rw [←HCS.out]
     exact ixrune_none r (by omega) (by omega) W1
    have HI2:=hid hi2
    have HB2:=hid hb2
    clear hxl hx hW1 hi2 hb2 hr hk r5
    go_wp2_with (go_at_call 189;refine HIR.out.mono ?_;rintro e w2 ⟨rfl,hg2⟩)
    go_roundg (s.size-(i+k))
    case measure=>omega
    case rel=>exact ⟨i+k,by omega,by omega,(hg2.below.block _ (Array.getElem?_eq_some_iff.1 HI2.out).1).trans HI2.out,bel_then HB2.out HB2.out.size hg2.below,HF⟩
  ·have hi':i=s.size:=by omega
   have hnx:=fun ty=>run_next_stop wr w.heap.size s i ty HI.out hlt
   have HF:Hid (FirstOp s.data.toList (-1)):=Or.inl ⟨rfl,fun c hc=>HN.out c (by rw [List.take_of_length_le (by simp;omega)];exact hc)⟩
   go_wp2_with fail
   go_ret
   exact ⟨⟨_,rfl,HF.out⟩,HB.out⟩
theorem ixany_any (s:ByteArray) (w:World) (hs:s.size≤4294967000) :
  Calls Tryz.prog 158 #[.string s,.string ⟨#[61,33,94,60,62,63,45]⟩] w fun e w'=>(∃k,e=.returned (.int .i64 k)∧FirstOp s.data.toList k)∧Below w.heap.size w w':=by
 by_cases h8:s.size≤8
 ·exact ixany_short s w h8
 ·refine (Tryz.strings_IndexAny_long (fun _=>by kernel_rfl) s ⟨#[61,33,94,60,62,63,45]⟩ w (by decide) (by omega) (by omega) (by decide) (fun j b hb=>signs_low b (List.mem_of_getElem? hb))).mono ?_
  rintro e w' ⟨rfl,rfl⟩
  exact ⟨⟨_,rfl,indexAny_first _⟩,((Below.refl _ _).alloc (Nat.le_refl _) _).alloc (by simp) _⟩
end
section
open Go.RowKit Go.Lib
theorem box_put {W:World} {R:Nat} {x:Tm} (h:BoxM W R x) (y:Tm) :
  BoxM (((W.setCell ⟨R,0,none⟩ (.string y.1)).setCell ⟨R,1,none⟩ (.int .i64 y.2.1)).setCell ⟨R,2,none⟩ (.string y.2.2)) R y :=
 heap_setCell_same _ R 2 _ _ _ (heap_setCell_same _ R 1 _ _ _ (heap_setCell_same W R 0 _ _ _ h))
theorem box_free {W:World} {R:Nat} {x:Tm} (h:BoxM W R x):W.frozen? ⟨R,0,none⟩=false∧W.frozen? ⟨R,1,none⟩=false∧W.frozen? ⟨R,2,none⟩=false :=
 ⟨Lib.frozen_of_heap h 0,Lib.frozen_of_heap h 1,Lib.frozen_of_heap h 2⟩
theorem bel_put {B R:Nat} {w W:World} (h:Below B w W) (hR:B≤R) (y:Tm):Below B w (((W.setCell ⟨R,0,none⟩ (.string y.1)).setCell ⟨R,1,none⟩ (.int .i64 y.2.1)).setCell ⟨R,2,none⟩ (.string y.2.2)) :=
 ((h.setCell (p:=⟨R,0,none⟩) hR _).setCell (p:=⟨R,1,none⟩) hR _).setCell (p:=⟨R,2,none⟩) hR _
theorem readL_cons {c:UInt8} {r t:List UInt8} (h:readL (c::r)=some t):t≠[]:=by
 cases hf:firstP (c::r) with
 | none=>rw [readL_none (by simp) hf] at h;cases h
 | some o =>
  obtain ⟨c',n⟩:=o
  rw [readL_some hf] at h
  cases hr:readL ((c::r).drop n) with
  | none=>rw [hr] at h;cases h
  | some m =>
   rw [hr] at h
   rintro rfl
   cases h
theorem ix_sign {c:UInt8} (h:isOp c=true):Lib.indexByte (⟨#[61,33,94,60,62,63,45]⟩:ByteArray).data.toList c=opN (c.toNat:Int)-1:=by
 rcases op_sign h with rfl|rfl|rfl|rfl|rfl|rfl|rfl<;>decide
theorem op_pos {c:UInt8} (h:isOp c=true):1≤opN (c.toNat:Int)∧opN (c.toNat:Int)≤7:=by
 have h1:=opN_range (c.toNat:Int)
 have h2:opN (c.toNat:Int)≠0:=by unfold isOp at h;exact bne_iff_ne.1 h
 omega
theorem termO_at {l:List UInt8} {i:Nat} (hi:i<l.length) (h1:isOp l[i]=true) (h2:∀c∈l.take i,isOp c=false) :
  termO l=match readL (l.drop (i+1)) with
   | none=>none
   | some t=>if rightM (⟨(l.take i).toArray⟩,opN (l[i].toNat:Int),⟨t.toArray⟩)=true then some (⟨(l.take i).toArray⟩,opN (l[i].toNat:Int),⟨t.toArray⟩) else none:=by
 obtain ⟨e1,e2⟩:=op_split hi h2 h1
 unfold termO
 rw [e2]
 simp only
 cases hr:readL (l.drop (i+1)) with
 | none=>rfl
 | some t =>
  simp only
  rw [e1]
  obtain ⟨o1,o2⟩:=op_pos h1
  have hz:(⟨t.toArray⟩:ByteArray).size=0↔t=[]:=by
   show t.toArray.size=0↔_
   simp
  have hne:l.drop (i+1)≠[]↔t≠[]:=by
   cases hd:l.drop (i+1) with
   | nil=>rw [hd,readL_nil] at hr;cases hr;simp
   | cons c r=>rw [hd] at hr;exact ⟨fun _=>readL_cons hr,fun _=>by simp⟩
  by_cases h5:5<opN (l[i].toNat:Int)
  ·by_cases ht:t=[]
   ·have:rightM (⟨(l.take i).toArray⟩,opN (l[i].toNat:Int),⟨t.toArray⟩)=true:=by
     unfold rightM
     simp only [decide_eq_true o1,decide_eq_true o2,decide_eq_true (hz.2 ht),Bool.true_and,Bool.or_true]
    rw [if_neg (fun h=>(hne.1 h.2) ht),if_pos this]
   ·have:rightM (⟨(l.take i).toArray⟩,opN (l[i].toNat:Int),⟨t.toArray⟩)=false:=by
     unfold rightM
     have e3:decide (opN (l[i].toNat:Int)<6)=false:=decide_eq_false (by omega)
     have e4:decide ((⟨t.toArray⟩:ByteArray).size=0)=false:=decide_eq_false (fun h=>ht (hz.1 h))
     simp only [e3,e4,Bool.or_false,Bool.and_false]
    rw [if_pos ⟨h5,hne.2 ht⟩,if_neg (by rw [this];simp)]
  ·have:rightM (⟨(l.take i).toArray⟩,opN (l[i].toNat:Int),⟨t.toArray⟩)=true:=by
    unfold rightM
    have e3:decide (opN (l[i].toNat:Int)<6)=true:=decide_eq_true (by omega)
    simp only [decide_eq_true o1,decide_eq_true o2,e3,Bool.true_and,Bool.true_or]
   rw [if_neg (fun h=>h5 h.1),if_pos this]
theorem FirstOp.uniq {l:List UInt8} {a b:Int} (ha:FirstOp l a) (hb:FirstOp l b):a=b:=by
 rcases ha with ⟨rfl,h1⟩|⟨i,rfl,hi,h1,h2⟩
 ·rcases hb with ⟨rfl,_⟩|⟨j,rfl,hj,h3,_⟩
  ·rfl
  ·rw [h1 _ (List.getElem_mem hj)] at h3;cases h3
 ·rcases hb with ⟨rfl,h3⟩|⟨j,rfl,hj,h3,h4⟩
  ·rw [h3 _ (List.getElem_mem hi)] at h1;cases h1
  ·rcases Nat.lt_trichotomy i j with h|h|h
   ·rw [h4 _ (List.mem_iff_getElem.2 ⟨i,by rw [List.length_take];omega,by rw [List.getElem_take]⟩)] at h1;cases h1
   ·rw [h]
   ·rw [h2 _ (List.mem_iff_getElem.2 ⟨j,by rw [List.length_take];omega,by rw [List.getElem_take]⟩)] at h3;cases h3
theorem ixany_at {s:ByteArray} {k:Int} (h:FirstOp s.data.toList k) (w:World) (hs:s.size≤4294967000) :
  Calls Tryz.prog 158 #[.string s,.string ⟨#[61,33,94,60,62,63,45]⟩] w fun e w'=>e=.returned (.int .i64 k)∧Below w.heap.size w w' :=
 (ixany_any s w hs).mono fun _ _ ⟨⟨k',h1,h2⟩,h3⟩=>⟨by rw [h1,h.uniq h2],h3⟩
def termV (o:Option Tm):Value:=match o with
 | none=>.tuple #[.agg #[.string ⟨#[]⟩,.int .i64 0,.string ⟨#[]⟩],.int .i64 4]
 | some x=>.tuple #[.agg #[.string x.1,.int .i64 x.2.1,.string x.2.2],.int .i64 0]
set_option maxHeartbeats 4000000 in
set_option maxRecDepth 100000 in
theorem term_any (s:ByteArray) (w:World) (hp:PlainAt w) (hs:s.size≤4294967000) :
  Calls Tryz.prog 116 #[.string s] w fun e w'=>e=.returned (termV (termO s.data.toList))∧Below w.heap.size w w':=by
 obtain ⟨W0,hW0⟩:∃W0,w.alloc (.cells #[.string ⟨#[]⟩,.int .i64 0,.string ⟨#[]⟩] 49)=W0:=⟨_,rfl⟩
 obtain ⟨R,hR⟩:∃R,w.heap.size=R:=⟨_,rfl⟩
 have hb0:Below R w W0:=by rw [←hW0,←hR];exact (Below.refl _ _).alloc (Nat.le_refl _) _
 have hx0:BoxM W0 R (⟨#[]⟩,0,⟨#[]⟩):=by rw [←hW0,←hR];exact boxM_new w (⟨#[]⟩,0,⟨#[]⟩)
 have hRl:R<W0.heap.size:=hx0.lt
 have HP:=hid (show PlainAt W0 from hp.on (by rw [hR];exact hb0))
 have HB0:=hid hb0
 have HX0:=hid hx0
 obtain ⟨V,hV⟩:∃V,termV (termO s.data.toList)=V:=⟨_,rfl⟩
 have HV:=hid hV
 rw [hV,hR]
 clear hp hb0 hx0 hV
 have KR:Hid (∀W,Below W0.heap.size W0 W→BoxM W R (⟨#[]⟩,0,⟨#[]⟩)):=fun W h=>HX0.out.on h
 have KZ:Hid (∀W,Below W0.heap.size W0 W→Below R w W):=fun W h=>HB0.out.trans (h.mono (Nat.le_of_lt hRl))
 rcases indexAny_first s.data.toList with hk|⟨i,hki,hi,h1,h2⟩
 ·have HX:=hid (ixany_at (Or.inl ⟨rfl,hk.2⟩) W0 hs)
  have HO:Hid (V=.tuple #[.agg #[.string ⟨#[]⟩,.int .i64 0,.string ⟨#[]⟩],.int .i64 4]):=by
   show _=_
   rw [←HV.out,op_none hk.2]
   rfl
  clear hk
  go_enter Tryz.func116,Tryz.ntmps116
  go_wp2_with (first|(go_at_call 158;refine HX.out.mono ?_;rintro e w1 ⟨rfl,hb1⟩;have hx1:=KR.out _ hb1;obtain ⟨k0,k1,k2⟩:=hx1.cells;obtain ⟨f0,f1,f2⟩:=box_free hx1;simp only at k0 k1 k2;have HX1:=hid hx1;clear hx1))
  obtain ⟨j0,j1,j2⟩:=(box_put HX1.out (⟨#[]⟩,0,⟨#[]⟩)).cells
  simp only at j0 j1 j2
  exact bodyPost_ret (v:=.tuple #[.agg #[.string ⟨#[]⟩,.int .i64 0,.string ⟨#[]⟩],.int .i64 4]) (by simp [results,Tryz.results116,go_sem,j0,j1,j2]) rfl ⟨by rw [HO.out],bel_put (KZ.out _ hb1) (Nat.le_refl _) (⟨#[]⟩,0,⟨#[]⟩)⟩
 ·have HX:=hid (ixany_at (Or.inr ⟨i,rfl,hi,h1,h2⟩) W0 hs)
  have HT:=hid (termO_at hi h1 h2)
  have his:i<s.size:=by simpa using hi
  obtain ⟨c,hc⟩:∃c,s[i]'his=c:=⟨_,rfl⟩
  have hcl:s.data.toList[i]=c:=hc
  rw [hcl] at HT h1
  have hix:=ix_sign h1
  obtain ⟨o1,o2⟩:=op_pos h1
  obtain ⟨o,ho⟩:∃o,opN (c.toNat:Int)=o:=⟨_,rfl⟩
  rw [ho] at hix o1 o2 HT
  have hback:((c.toNat:Int)).toNat.toUInt8=c:=by simp
  have HIX:Hid (∀W,Calls Tryz.prog 159 #[.string ⟨#[61,33,94,60,62,63,45]⟩,.int .u8 c.toNat] W fun e w'=>e=.returned (.int .i64 (o-1))∧w'=W):=fun W=>by
   have:=Tryz.strings_IndexByte ⟨#[61,33,94,60,62,63,45]⟩ c.toNat W
   rw [hback,hix] at this
   exact this
  have hw1:IntKind.i64.wrap (1+(o-1))=o:=by rw [show 1+(o-1)=o by omega];exact wrap_i64 _ (by omega) (by omega)
  have hiz:(0:Int)≤i:=by omega
  have hiz2:(i:Int)<(s.size:Int):=by omega
  have hiz3:(i:Int)+1≤(s.size:Int):=by omega
  have hiz4:(0:Int)≤(i:Int)+1:=by omega
  have hit:((i:Int)+1).toNat=i+1:=by omega
  have hnn:¬ ((i:Int)<0):=by omega
  have HRD:Hid (∀W,PlainAt W→Calls Tryz.prog 153 #[.string (s.extract (i+1) s.size)] W fun e w'=>e=.returned (readV (readL (s.data.toList.drop (i+1))))∧Below W.heap.size W w'):=fun W h=>by
   have:=read_any (s.extract (i+1) s.size) W h (by simp;omega)
   rwa [ext_drop] at this
  have HE:=hid (ext_take s i)
  clear hcl hix ho hki hi h2 h1
  cases hrd:readL (s.data.toList.drop (i+1)) with
  | none =>
   rw [hrd] at HRD HT
   have HO:Hid (V=.tuple #[.agg #[.string ⟨#[]⟩,.int .i64 0,.string ⟨#[]⟩],.int .i64 4]):=by
    show _=_
    rw [←HV.out,HT.out]
    rfl
   simp only [readV] at HRD
   go_enter Tryz.func116,Tryz.ntmps116
   go_wp2_with (first
    | (go_at_call 158;refine HX.out.mono ?_;rintro e w1 ⟨rfl,hb1⟩)
    | (go_at_call 159;refine (HIX.out _).mono ?_;rintro e w1' ⟨rfl,hw'⟩;rw [hw'])
    | (go_at_call 153;refine (HRD.out w1 (HP.out.on hb1)).mono ?_;rintro e w2 ⟨rfl,hb2⟩;have hb12:Below W0.heap.size W0 (w2.alloc (.cells #[.string (s.extract 0 i),.int .i64 o,.string ⟨#[]⟩] 49)):=(bel_then hb1 hb1.size hb2).alloc (Nat.le_trans hb1.size hb2.size) _;have hx1:=KR.out _ hb12;obtain ⟨k0,k1,k2⟩:=hx1.cells;obtain ⟨f0,f1,f2⟩:=box_free hx1;simp only at k0 k1 k2;have HX1:=hid hx1;clear hx1))
   obtain ⟨j0,j1,j2⟩:=(box_put HX1.out (⟨#[]⟩,0,⟨#[]⟩)).cells
   simp only at j0 j1 j2
   exact bodyPost_ret (v:=.tuple #[.agg #[.string ⟨#[]⟩,.int .i64 0,.string ⟨#[]⟩],.int .i64 4]) (by simp [results,Tryz.results116,go_sem,j0,j1,j2]) rfl ⟨by rw [HO.out],bel_put (KZ.out _ hb12) (Nat.le_refl _) (⟨#[]⟩,0,⟨#[]⟩)⟩
  | some t =>
   rw [hrd] at HRD HT
   simp only [readV] at HRD
   rw [←HE.out] at HT
   have HU:Hid (∀W,Calls Tryz.prog 160 #[.agg #[.string (s.extract 0 i),.int .i64 o,.string ⟨t.toArray⟩]] W fun e w'=>e=.returned (.bool (!rightM (s.extract 0 i,o,⟨t.toArray⟩)))∧Grown W w'):=fun W=>punm_any (s.extract 0 i,o,⟨t.toArray⟩) W
   have KF:Hid (∀w2 w4:World,Below W0.heap.size W0 w2→Grown (w2.alloc (.cells #[.string (s.extract 0 i),.int .i64 o,.string ⟨t.toArray⟩] 49)) w4→BoxM w4 w2.heap.size (s.extract 0 i,o,⟨t.toArray⟩)∧Below W0.heap.size W0 w4):=fun w2 w4 h hg =>
    ⟨(boxM_new w2 (s.extract 0 i,o,⟨t.toArray⟩)).on hg.below,bel_then (h.alloc h.size _) (h.alloc h.size _).size hg.below⟩
   cases hrt:rightM (s.extract 0 i,o,⟨t.toArray⟩) with
   | false =>
    rw [hrt] at HU
    have HO:Hid (V=.tuple #[.agg #[.string ⟨#[]⟩,.int .i64 0,.string ⟨#[]⟩],.int .i64 4]):=by
     show _=_
     rw [←HV.out,HT.out]
     simp only [hrt]
     rfl
    go_enter Tryz.func116,Tryz.ntmps116
    go_wp2_with (first
     | (go_at_call 158;refine HX.out.mono ?_;rintro e w1 ⟨rfl,hb1⟩)
     | (go_at_call 159;refine (HIX.out _).mono ?_;rintro e w1' ⟨rfl,hw'⟩;rw [hw'])
     | (go_at_call 153;refine (HRD.out w1 (HP.out.on hb1)).mono ?_;rintro e w2 ⟨rfl,hb2⟩;have hb12:Below W0.heap.size W0 w2:=bel_then hb1 hb1.size hb2)
     | (go_at_call 160;refine (HU.out _).mono ?_;rintro e w4 ⟨rfl,hg4⟩;obtain ⟨hbx,hb4⟩:=KF.out _ _ hb12 hg4;have hx1:=KR.out _ hb4;obtain ⟨k0,k1,k2⟩:=hx1.cells;obtain ⟨f0,f1,f2⟩:=box_free hx1;simp only at k0 k1 k2;have HX1:=hid hx1;clear hx1 hbx))
    obtain ⟨j0,j1,j2⟩:=(box_put HX1.out (⟨#[]⟩,0,⟨#[]⟩)).cells
    simp only at j0 j1 j2
    exact bodyPost_ret (v:=.tuple #[.agg #[.string ⟨#[]⟩,.int .i64 0,.string ⟨#[]⟩],.int .i64 4]) (by simp [results,Tryz.results116,go_sem,j0,j1,j2]) rfl ⟨by rw [HO.out],bel_put (KZ.out _ hb4) (Nat.le_refl _) (⟨#[]⟩,0,⟨#[]⟩)⟩
   | true =>
    rw [hrt] at HU
    have HO:Hid (V=.tuple #[.agg #[.string (s.extract 0 i),.int .i64 o,.string ⟨t.toArray⟩],.int .i64 0]):=by
     show _=_
     rw [←HV.out,HT.out]
     simp only [hrt]
     rfl
    go_enter Tryz.func116,Tryz.ntmps116
    go_wp2_with (first
     | (go_at_call 158;refine HX.out.mono ?_;rintro e w1 ⟨rfl,hb1⟩)
     | (go_at_call 159;refine (HIX.out _).mono ?_;rintro e w1' ⟨rfl,hw'⟩;rw [hw'])
     | (go_at_call 153;refine (HRD.out w1 (HP.out.on hb1)).mono ?_;rintro e w2 ⟨rfl,hb2⟩;have hb12:Below W0.heap.size W0 w2:=bel_then hb1 hb1.size hb2)
     | (go_at_call 160;refine (HU.out _).mono ?_;rintro e w4 ⟨rfl,hg4⟩;obtain ⟨hbx,hb4⟩:=KF.out _ _ hb12 hg4;obtain ⟨g0,g1,g2⟩:=hbx.cells;have hx1:=KR.out _ hb4;obtain ⟨k0,k1,k2⟩:=hx1.cells;obtain ⟨f0,f1,f2⟩:=box_free hx1;simp only at k0 k1 k2 g0 g1 g2;have HX1:=hid hx1;clear hx1 hbx))
    obtain ⟨j0,j1,j2⟩:=(box_put HX1.out (s.extract 0 i,o,⟨t.toArray⟩)).cells
    simp only at j0 j1 j2
    exact bodyPost_ret (v:=.tuple #[.agg #[.string (s.extract 0 i),.int .i64 o,.string ⟨t.toArray⟩],.int .i64 0]) (by simp [results,Tryz.results116,go_sem,j0,j1,j2]) rfl ⟨by rw [HO.out],bel_put (KZ.out _ hb4) (Nat.le_refl _) (s.extract 0 i,o,⟨t.toArray⟩)⟩
end
section
open Go.RowKit Go.Lib
theorem own_noneX (N:Nat) (w:World):OwnJ N w (.slice none 0 0) []:=⟨⟨World.ownsRow_nil _ _ _ _,fun x hx=>by simp at hx⟩,List.Pairwise.nil⟩
end
section
open Go.RowKit
attribute [local go_sem] Oper.semAt_some
theorem termO_fit {l:List UInt8} {x:Tm} (h:termO l=some x):x.1.size≤l.length∧x.2.2.size≤l.length∧0≤x.2.1∧x.2.1≤7:=by
 unfold termO at h
 cases hd:l.dropWhile (fun c=>!isOp c) with
 | nil=>rw [hd] at h;cases h
 | cons c r =>
  rw [hd] at h
  simp only at h
  have hl:(l.dropWhile (fun c=>!isOp c)).length≤l.length:=(List.dropWhile_sublist _).length_le
  rw [hd,List.length_cons] at hl
  cases hr:readL r with
  | none=>rw [hr] at h;cases h
  | some t =>
   rw [hr] at h
   simp only at h
   split at h
   ·cases h
   ·cases h
    have h1:=readL_len _ _ _ (Nat.le_refl _) hr
    have h2:=opN_range (c.toNat:Int)
    refine ⟨?_,?_,h2.1,h2.2⟩
    ·show (l.takeWhile _).toArray.size≤_
     rw [List.size_toArray]
     exact (List.takeWhile_sublist _).length_le
    ·show t.toArray.size≤_
     rw [List.size_toArray]
     omega
theorem termsW_fit {B:Nat} (ls:List (List UInt8)) (hB:∀l∈ls,l.length≤B):∀d,termsW ls=some d→d.length=ls.length∧∀x∈d,x.1.size≤B∧x.2.2.size≤B∧0≤x.2.1∧x.2.1≤7:=by
 induction ls with
 | nil=>intro d h;cases h;exact ⟨rfl,fun x hx=>by simp at hx⟩
 | cons l ls ih =>
  intro d h
  simp only [termsW] at h
  cases ho:termO l with
  | none=>rw [ho] at h;cases h
  | some y =>
   rw [ho] at h
   cases hr:termsW ls with
   | none=>rw [hr] at h;cases h
   | some gs =>
    rw [hr] at h
    cases h
    obtain ⟨h1,h2⟩:=ih (fun l' hl'=>hB l' (by simp [hl'])) gs hr
    refine ⟨by simp [h1],fun x hx=>?_⟩
    rcases List.mem_cons.1 hx with rfl|hx
    ·obtain ⟨f1,f2,f3,f4⟩:=termO_fit ho
     have:=hB l (by simp)
     exact ⟨by omega,by omega,f3,f4⟩
    ·exact h2 x hx
theorem Kind.own_far {α:Type} {K:Kind α} {N R:Nat} {w w':World} {v:Value} {d:List α} (h:K.Own N w v d) (hg:w.grownBy w' (some R)) (hR:R<N):K.Own N w' v d :=
 own_same h fun k hk=>hg.block k (World.ownsRow.lt h k hk).2 (fun e=>by have:=(World.ownsRow.lt h k hk).1;have:=Option.some.inj e;omega)
def PSt {M:Nat} (w:World) (N:Nat) (pre:List (Wd M)) (W:World):Prop :=
 ∃v d,W.heap[w.heap.size+2]? = some (.cells #[v] 39 (0,0))∧KM.Own (N+2) W v d∧termsW (plainW pre)=some d∧d.length=pre.length ∧
  W.heap[w.heap.size]? = some (.cells #[.slice none 0 0] 39 (0,0))∧W.heap[w.heap.size+1]? = some (.cells #[.int .i64 0] 26 (0,0))∧Below w.heap.size w W∧N+2≤W.heap.size∧w.heap.size+6≤N
def PStop {M:Nat} (w:World) (N:Nat) (c:Code) (pre:List (Wd M)) (W:World):Prop :=
 c=.ret∧termsW (plainW pre)=none∧W.heap[w.heap.size]? = some (.cells #[.slice none 0 0] 39 (0,0))∧W.heap[w.heap.size+1]? = some (.cells #[.int .i64 4] 26 (0,0))∧Below w.heap.size w W∧w.heap.size+6≤N
set_option maxHeartbeats 1000000 in
theorem pparse_empty (w:World):Calls Tryz.prog 73 #[.string ⟨#[]⟩] w fun e w'=>TWPost w (termsW (wordsAns [])) e w':=by
 refine (callsIn_wide (n:=3)).1 ?_
 refine callsIn_of_wp_marks Tryz.func73 rfl trivial ?_ rfl
 simp only [Tryz.ntmps73,List.size_toArray,List.length_cons,List.length_nil,Nat.reduceAdd,Nat.reduceSub,Array.replicate_succ,Array.replicate_zero,List.push_toArray,List.append_toArray,List.nil_append,List.cons_append]
 gi_wp2
 exact ⟨.tuple #[.slice none 0 0,.int .i64 0],by simp [results,Tryz.results73,go_sem],⟨⟨_,rfl,KM.own_nil _ _⟩,((Below.refl _ w).alloc (Nat.le_refl _) _).alloc (by simp) _⟩⟩
set_option maxHeartbeats 4000000 in
set_option maxRecDepth 100000 in
theorem pparse_words (s:ByteArray) (w:World) (hp:PlainAt w) (h0:s.data.toList≠[]) (hs:s.size≤4294967000) :
  Calls Tryz.prog 73 #[.string s] w fun e w'=>TWPost w (termsW (wordsAns s.data.toList)) e w':=by
 refine (callsIn_wide (n:=3)).1 ?_
 refine callsIn_of_wp_marks Tryz.func73 rfl trivial ?_ rfl
 simp only [Tryz.ntmps73,List.size_toArray,List.length_cons,List.length_nil,Nat.reduceAdd,Nat.reduceSub,Array.replicate_succ,Array.replicate_zero,List.push_toArray,List.append_toArray,List.nil_append,List.cons_append]
 have hsl:(splitL s.data.toList).length≤s.size+1:=by simpa using splitL_len s.data.toList
 have hne:s.toList.isEmpty=false:=by
  rw [Lib.toList_data]
  cases h:s.data.toList with
  | nil=>exact absurd h h0
  | cons _ _=>rfl
 gi_wp2_with (refine ⟨trivial,?_⟩;gi_at_call 16;refine (callsIn_wide.2 (splitSeq_any _ _)).mono ?_;rintro e w3 ⟨rfl,hbx,hb3,hs3⟩)
 simp only [World.size_alloc] at hbx hb3 hs3
 have hb30:Below w.heap.size w w3:=((((Below.refl _ w).alloc (Nat.le_refl _) _).alloc (by simp) _).alloc (by simp;omega) _).trans (hb3.mono (by omega))
 have g0:w3.heap[w.heap.size]? = some (.cells #[.slice none 0 0] 39 (0,0)):=by
  rw [hb3.block _ (by omega),Below.heap_alloc _ _ _ (by simp;omega),Below.heap_alloc _ _ _ (by simp)];exact heap_alloc_new w _
 have g1:w3.heap[w.heap.size+1]? = some (.cells #[.int .i64 0] 26 (0,0)):=by
  rw [hb3.block _ (by omega),Below.heap_alloc _ _ _ (by simp)]
  have:=heap_alloc_new (w.alloc (.cells #[.slice none 0 0] 39)) (.cells #[.int .i64 0] 26)
  simpa using this
 have g2:w3.heap[w.heap.size+2]? = some (.cells #[.slice none 0 0] 39 (0,0)):=by
  rw [hb3.block _ (by omega)]
  have:=heap_alloc_new ((w.alloc (.cells #[.slice none 0 0] 39)).alloc (.cells #[.int .i64 0] 26)) (.cells #[.slice none 0 0] 39)
  simpa using this
 have hN6:w3.heap.size=w.heap.size+6:=by omega
 have ST0:Hid (∀o1 o2,PSt (M:=s.size) w w3.heap.size [] ((w3.alloc o1).alloc o2)):=fun o1 o2=>by
  have ha:∀k,k<w3.heap.size→((w3.alloc o1).alloc o2).heap[k]? = w3.heap[k]?:=fun k hk=>by
   rw [Below.heap_alloc _ _ _ (by simp;omega),Below.heap_alloc _ _ _ hk]
  exact ⟨.slice none 0 0,[],(ha _ (by omega)).trans g2,KM.own_nil _ _,rfl,rfl,(ha _ (by omega)).trans g0,(ha _ (by omega)).trans g1,
   (hb30.alloc hb30.size _).alloc (by have:=hb30.size;simp;omega) _,by simp,by omega⟩
 have HBX:=hid hbx
 have HP:=hid hp
 have hen:=enters_of (P:=Tryz.prog) Tryz.func61 (by kernel_rfl) rfl
 clear hbx hp g0 g1 g2 hb3 hs3
 refine wpIn_rangeFunc_box (w:=w3) rfl (by decide) (gf:=61) (lb:=#[.pointer (some ⟨w.heap.size+1+1+1+1,0,none⟩),.pointer (some ⟨w.heap.size+1+1+1,0,none⟩),.pointer (some ⟨w.heap.size+1+1+1+2,0,none⟩)]) rfl trivial hen (Bs:=w.heap.size+1+1+1) (by omega)
  (split1_seq 2 (by decide) s.size _ _ _ s (Nat.le_refl _) (by unfold maxLen;omega) w3 HBX.out) ?hKt ?hKb (fun _=>rfl) (PSt w w3.heap.size) (PStop w w3.heap.size) ?hIp ?hIb ?hXp ST0.out
  (fun x=>{ tmps:=#[.string s,undef,.pointer (some ⟨w.heap.size,0,none⟩),.pointer (some ⟨w.heap.size+1,0,none⟩),.pointer (some ⟨w.heap.size+1+1,0,none⟩),.string x.1,undef,undef,.string s,.bool false,.string s,
   .func (.func 61) #[] #[.pointer (some ⟨w.heap.size+1+1+1+1,0,none⟩),.pointer (some ⟨w.heap.size+1+1+1,0,none⟩),.pointer (some ⟨w.heap.size+1+1+1+2,0,none⟩)],
   .string x.1,undef,undef,undef,undef,undef,undef,undef,undef,undef,undef,undef,undef,undef,undef,undef,undef],defers:=[] }) ?assign ?body ?done ?stop
 case hKt=>exact fun h k=>⟨k.1.trans h.1,k.2.1.trans h.2.1,k.2.2.trans h.2.2⟩
 case hKb=>exact fun W l o' hl=>⟨World.putObj_heap_other (by omega),World.putObj_heap_other (by omega),World.putObj_heap_other (by omega)⟩
 case hIp =>
  rintro pre W o' ⟨v,d,k2,hox,hf,hl,k0,k1,hb,hz,h6⟩
  have hg:W.grownBy (W.putObj (w3.heap.size+1) o') (some (w3.heap.size+1)):=grownBy_putObj' W _ o'
  exact ⟨v,d,(World.putObj_heap_other (by omega)).trans k2,Kind.own_far hox hg (by omega),hf,hl,(World.putObj_heap_other (by omega)).trans k0,(World.putObj_heap_other (by omega)).trans k1,hb.grown hg (by omega) (fun k e=>by cases e;omega),Nat.le_trans hz hg.size,h6⟩
 case hIb =>
  rintro pre W u ⟨v,d,k2,hox,hf,hl,k0,k1,hb,hz,h6⟩
  have hg:W.grownBy (W.setCell ⟨w.heap.size+1+1+1,0,none⟩ u) (some (w.heap.size+1+1+1)):=grown_set W _ 0 u
  exact ⟨v,d,(hg.block _ (by omega) (by intro e;have:=Option.some.inj e;omega)).trans k2,Kind.own_far hox hg (by omega),hf,hl,(hg.block _ (by omega) (by intro e;have:=Option.some.inj e;omega)).trans k0,(hg.block _ (by omega) (by intro e;have:=Option.some.inj e;omega)).trans k1,hb.grown hg (by omega) (fun k e=>by cases e;omega),Nat.le_trans hz hg.size,h6⟩
 case hXp =>
  rintro c pre W o' ⟨hc,hf,k0,k1,hb,h6⟩
  have hg:W.grownBy (W.putObj (w3.heap.size+1) o') (some (w3.heap.size+1)):=grownBy_putObj' W _ o'
  exact ⟨hc,hf,(World.putObj_heap_other (by omega)).trans k0,(World.putObj_heap_other (by omega)).trans k1,⟨hg.os.trans hb.os,hg.tape.trans hb.tape,hg.output.trans hb.output,Nat.le_trans hb.size hg.size,fun k hk=>(World.putObj_heap_other (by omega)).trans (hb.block k hk)⟩,h6⟩
 case assign =>
  intro l x W K hK
  simp only [encW]
  gi_wp2
  exact hK
 case body =>
  rintro l pre x W hlW ⟨v,d,k2,hox,hf,hl,k0,k1,hb,hz,h6⟩ hlen
  have hwp:=term_any x.1 W (HP.out.on hb) (Nat.le_trans x.2 hs)
  obtain ⟨i0,hi,hz0,hz1,hz2⟩:=info_parts Tryz.infoTrm
  have hpl:plainW (pre++[x])=plainW pre++[x.1.data.toList]:=by simp [plainW]
  have HPL:=hid hpl
  have HF:=hid hf
  have HB:=hid hb
  have HOX:=hid hox
  have HK0:=hid k0
  have HK1:=hid k1
  have HK2:=hid k2
  have HLN:=hid hl
  clear hpl hf hb hox hl
  cases hwo:termO x.1.data.toList with
  | none =>
   rw [hwo] at hwp
   have HW:Hid (Calls Tryz.prog 116 #[.string x.1] W fun e w'=>e=.returned (.tuple #[.agg #[.string ⟨#[]⟩,.int .i64 0,.string ⟨#[]⟩],.int .i64 4])∧Below W.heap.size W w'):=hwp
   have HNO:Hid (termsW (plainW (pre++[x]))=none):=by
    show _=_
    rw [HPL.out]
    exact termsW_no hwo
   clear hwp k0 k1 k2
   have HN6:=hid hN6
   clear hN6
   gi_wp2_with (refine ⟨trivial,?_⟩;gi_at_call 116;refine (CallsIn.inRound l (callsIn_wide.2 HW.out)).mono ?_;rintro e W2 ⟨rfl,hb2⟩;have hs2:=hb2.size;have t0:=HK0.out;have t1:=HK1.out;have t0':=(Below.heap_alloc W2 (.cells #[.string ⟨#[]⟩,.int .i64 0,.string ⟨#[]⟩] 49) w.heap.size (by omega)).trans ((hb2.block w.heap.size (by omega)).trans t0);have t1':=(Below.heap_alloc W2 (.cells #[.string ⟨#[]⟩,.int .i64 0,.string ⟨#[]⟩] 49) (w.heap.size+1) (by omega)).trans ((hb2.block (w.heap.size+1) (by omega)).trans t1);obtain ⟨q0,q1⟩:=one_facts t0';obtain ⟨q2,q3⟩:=one_facts t1';have T0:=hid t0';have T1:=hid t1';clear t0 t1 t0' t1')
   have hbb:=((((HB.out.trans (hb2.mono HB.out.size)).alloc (Nat.le_trans HB.out.size hs2) (.cells #[.string ⟨#[]⟩,.int .i64 0,.string ⟨#[]⟩] 49)).setCell (p:=⟨w.heap.size,0,none⟩) (Nat.le_refl _) (.slice none 0 0)).setCell (p:=⟨w.heap.size+1,0,none⟩) (by show _≤w.heap.size+1;omega) (.int .i64 4))
   have hkf:KeepsFrom w3.heap.size W (W2.alloc (.cells #[.string ⟨#[]⟩,.int .i64 0,.string ⟨#[]⟩] 49)):=KeepsFrom.trans (keeps_below hb2) ((KeepsOthers.alloc _ _).from _)
   exact ⟨(hkf.trans ((KeepsOthers.setCell _ _ _).from _)).trans ((KeepsOthers.setCell _ _ _).from _),rfl,HNO.out,Boxed.other (Boxed.set _ T0.out) (by omega) _,Boxed.set _ (Boxed.other T1.out (by omega) _),hbb,h6⟩
  | some y =>
   rw [hwo] at hwp
   have HW:Hid (Calls Tryz.prog 116 #[.string x.1] W fun e w'=>e=.returned (.tuple #[.agg #[.string y.1,.int .i64 y.2.1,.string y.2.2],.int .i64 0])∧Below W.heap.size W w'):=hwp
   have HNO:Hid (termsW (plainW (pre++[x]))=some (d++[y])):=by
    show _=_
    rw [HPL.out]
    exact termsW_snoc HF.out hwo
   obtain ⟨yf,yo,yt⟩:=y
   simp only at HW
   clear hwp k0 k1 k2
   have HN6:=hid hN6
   clear hN6
   gi_wp2_with (first|(gi_at_builtin;refine wpListIn_append_own _ rfl _ _ 39 rfl (w3.heap.size+2) 49 i0 (.agg #[.string ⟨#[]⟩,.int .i64 0,.string ⟨#[]⟩]) 3 40 Tryz.underlying39 hi hz0 hz1 hz2 rfl (by decide) _ _ _ rfl HX2.out ⟨W2.heap.size+1,0,none⟩ 1 1 (KM.cells [(yf,yo,yt)]) rfl rfl HC.out (KM.cells_ones _) (by rw [HLN.out];unfold maxLen;omega) (by rw [HLN.out];omega) (by simp;omega) ?_;intro v' w1 hown' hgrow _;obtain ⟨g',cap',rfl⟩:=ownsRow_succ hown';have hv1:=T2.out.kept hgrow (T2.out.not_row (by decide) HX2.out);have hc1:=hv1.cell;have hf1:=hv1.frozen;have HV1:=hid hv1;have HO:=hid hown';have HG:=hid hgrow;clear hv1 hown' hgrow)|(refine ⟨trivial,?_⟩;gi_at_call 116;refine (CallsIn.inRound l (callsIn_wide.2 HW.out)).mono ?_;rintro e W2 ⟨rfl,hb2⟩;have hs2:=hb2.size;have t2:=HK2.out;have t2':=(Below.heap_alloc W2 (.cells #[.string yf,.int .i64 yo,.string yt] 49) (w.heap.size+2) (by omega)).trans ((hb2.block (w.heap.size+2) (by omega)).trans t2);obtain ⟨q0,q1⟩:=one_facts t2';have T2:Hid (Boxed ((W2.alloc (.cells #[.string yf,.int .i64 yo,.string yt] 49)).alloc (.cells #[.string yf,.int .i64 yo,.string yt] 49)) (w.heap.size+2) 39 v):=hid (Boxed.alloc t2' _);have HB2:Hid (Below W.heap.size W ((W2.alloc (.cells #[.string yf,.int .i64 yo,.string yt] 49)).alloc (.cells #[.string yf,.int .i64 yo,.string yt] 49))):=hid ((hb2.alloc hs2 _).alloc (by simp;omega) _);have HX2:=hid (Kind.own_on HOX.out HB2.out);have HC:=hid (KM.news (W2.alloc (.cells #[.string yf,.int .i64 yo,.string yt] 49)) (yf,yo,yt));rw [World.size_alloc] at HC;clear t2 t2'))
   have hb12:Below (w3.heap.size+2) W w1:=(HB2.out.mono hz).trans ((Below.refl _ _).grown HG.out (by simp;omega) (fun k hk=>(World.ownsRow.lt HX2.out k hk).1))
   have hsz1:=hb12.size
   have hox0:KM.Own (w3.heap.size+2) w1 (.slice (some ⟨g',0,none⟩) (d.length+1) cap') (d++[(yf,yo,yt)]):=Kind.own_snoc HO.out rfl rfl
   have hox1:=Kind.own_far hox0 (grown_set w1 (w.heap.size+2) 0 (.slice (some ⟨g',0,none⟩) (d.length+1) cap')) (by omega)
   have hkf:KeepsFrom w3.heap.size W w1:=(keeps_below HB2.out).trans ((KeepsOthers.of_grownBy HG.out (fun j o ej hj=>row_cells HX2.out ej hj)).from _)
   refine ⟨hkf.trans ((KeepsOthers.setCell _ _ _).from _),⟨(Below.heap_setCell w1 _ _ _ (by show _≠w.heap.size+1+1;omega)).trans (hb12.block _ (by omega)),(Below.heap_setCell w1 _ _ _ (by show _≠w.heap.size+1+1;omega)).trans (hb12.block _ (by omega)),(Below.heap_setCell w1 _ _ _ (by show _≠w.heap.size+1+1;omega)).trans (hb12.block _ (by omega))⟩,?_⟩
   exact ⟨_,d++[(yf,yo,yt)],Boxed.set _ HV1.out,hox1,HNO.out,by rw [List.length_append,List.length_append,HLN.out];rfl,
    Boxed.other ((hb12.block _ (by omega)).trans HK0.out) (by omega) _,Boxed.other ((hb12.block _ (by omega)).trans HK1.out) (by omega) _,
    (HB.out.trans (hb12.mono (by omega))).setCell (p:=⟨w.heap.size+1+1,0,none⟩) (by show _≤w.heap.size+1+1;omega) _,by simp [World.setCell];omega,h6⟩
 case done =>
  rintro xs W hS ⟨v,d,k2,hox,hf,hl,k0,k1,hb,hz,h6⟩ hK
  have hfs:termsW (wordsAns s.data.toList)=some d:=by unfold wordsAns;rw [if_neg h0,←hS];exact hf
  have hln:d.length=(splitL s.data.toList).length:=by rw [hl];have:=congrArg List.length hS;simpa [plainW] using this
  obtain ⟨f1,f3⟩:=termsW_fit (B:=s.size) (plainW xs) (fun l hl=>by
   obtain ⟨x,_,rfl⟩:=List.mem_map.1 hl
   simpa using x.2) d hf
  have hfit:FitM d:=⟨by unfold maxLen;omega,fun x hx=>by
   obtain ⟨a1,a2,a3,a4⟩:=f3 x hx
   refine ⟨?_,?_,by omega,by omega⟩
   ·unfold maxLen;omega
   ·unfold maxLen;omega⟩
  have hnm:=pnorm_any v d W (Kind.own_is hox) hfit
  have HNM:Hid (Calls Tryz.prog 117 #[v] W fun e w'=>∃p n c,e=.returned (.tuple #[.slice p n c,.int .i64 (mayM d)])∧KM.Own W.heap.size w' (.slice p n c) (ansM d)∧Below W.heap.size W w'):=hnm.mono (by
   rintro e w' ⟨⟨u,rfl,ho⟩,hb'⟩
   obtain ⟨p,c,rfl⟩:=Kind.own_shape ho
   exact ⟨p,_,c,rfl,ho,hb'⟩)
  have HAN:Hid (codeW (some d)=mayM d∧ansW (some d)=ansM d):=⟨rfl,rfl⟩
  obtain ⟨k,hk⟩:∃k,mayM d=k:=⟨_,rfl⟩
  rw [hk] at HNM HAN
  obtain ⟨c2,_⟩:=one_facts k2
  have HK0:=hid k0
  have HK1:=hid k1
  have HB:=hid hb
  have HK:=hid hK
  have HFS:=hid hfs
  have HN6:=hid hN6
  clear hnm hfit hox hf k0 k1 k2 hK hN6 hb hfs hk
  gi_wp2_with (refine ⟨trivial,?_⟩;gi_at_call 117;refine (callsIn_wide.2 HNM.out).mono ?_;rintro e W2 ⟨p,n,c,rfl,hans,hb2⟩;obtain ⟨q0,q1⟩:=one_facts ((hb2.block w.heap.size (by omega)).trans HK0.out);obtain ⟨q2,q3⟩:=one_facts ((hb2.block (w.heap.size+1) (by omega)).trans HK1.out))
  have u0:Boxed W2 w.heap.size 39 (.slice none 0 0):=(hb2.block w.heap.size (by omega)).trans HK0.out
  have u1:Boxed W2 (w.heap.size+1) 26 (.int .i64 0):=(hb2.block (w.heap.size+1) (by omega)).trans HK1.out
  obtain ⟨W4,hW4⟩:∃W4,(W2.setCell ⟨w.heap.size,0,none⟩ (.slice p n c)).setCell ⟨w.heap.size+1,0,none⟩ (.int .i64 k)=W4:=⟨_,rfl⟩
  have y0:Boxed W4 w.heap.size 39 (.slice p n c):=by rw [←hW4];exact Boxed.other (Boxed.set _ u0) (by omega) _
  have y1:Boxed W4 (w.heap.size+1) 26 (.int .i64 k):=by rw [←hW4];exact Boxed.set _ (Boxed.other u1 (by omega) _)
  have hKD:W4.heap[w3.heap.size]? = some (.deferred (some [])):=by
   rw [←hW4]
   exact (Below.heap_setCell _ _ _ _ (by show _≠w.heap.size+1;omega)).trans ((Below.heap_setCell _ _ _ _ (by show _≠w.heap.size;omega)).trans ((hb2.block _ (by omega)).trans HK.out))
  have hb4:Below w.heap.size w W4:=by
   rw [←hW4]
   exact ((HB.out.trans (hb2.mono HB.out.size)).setCell (p:=⟨w.heap.size,0,none⟩) (Nat.le_refl _) _).setCell (p:=⟨w.heap.size+1,0,none⟩) (by show _≤w.heap.size+1;omega) _
  have ha4:KM.Own W.heap.size W4 (.slice p n c) (ansM d):=by
   rw [←hW4]
   exact Kind.own_far (Kind.own_far hans (grown_set W2 w.heap.size 0 _) (by omega)) (grown_set _ (w.heap.size+1) 0 _) (by omega)
  rw [hW4]
  have hsz4:=hb4.size
  have hg5:W4.grownBy (W4.putObj w3.heap.size (.deferred none)) (some w3.heap.size):=grownBy_putObj' W4 _ _
  have z0:Boxed (W4.putObj w3.heap.size (.deferred none)) w.heap.size 39 (.slice p n c):=(World.putObj_heap_other (by omega)).trans y0
  have z1:Boxed (W4.putObj w3.heap.size (.deferred none)) (w.heap.size+1) 26 (.int .i64 k):=(World.putObj_heap_other (by omega)).trans y1
  have z0c:=z0.cell
  have z1c:=z1.cell
  refine ⟨by simp,.inl ⟨_,_,rfl,run_takeDeferred hKD,?_⟩⟩
  refine ⟨.tuple #[.slice p n c,.int .i64 k],by simp [results,Tryz.results73,go_sem,z0c,z1c],⟨.slice p n c,?_,?_⟩,hb4.grown hg5 (by omega) (fun k e=>by cases e;omega)⟩
  ·rw [HFS.out,HAN.out.1]
  ·rw [HFS.out,HAN.out.2]
   exact Kind.own_weak (Kind.own_far ha4 hg5 (by omega)) (by omega)
 case stop =>
  rintro c pre W hSp ⟨rfl,hf,k0,k1,hb,h6⟩ hK
  have HN6:=hid hN6
  clear hN6
  gi_wp2
  have hg5:W.grownBy (W.putObj w3.heap.size (.deferred none)) (some w3.heap.size):=grownBy_putObj' W _ _
  have z0:Boxed (W.putObj w3.heap.size (.deferred none)) w.heap.size 39 (.slice none 0 0):=(World.putObj_heap_other (by omega)).trans k0
  have z1:Boxed (W.putObj w3.heap.size (.deferred none)) (w.heap.size+1) 26 (.int .i64 4):=(World.putObj_heap_other (by omega)).trans k1
  have z0c:=z0.cell
  have z1c:=z1.cell
  have hno:termsW (wordsAns s.data.toList)=none:=by
   obtain ⟨r,hr⟩:=hSp
   unfold wordsAns
   rw [if_neg h0,←hr,termsW_append,hf];rfl
  refine ⟨by simp,.inl ⟨_,_,rfl,run_takeDeferred hK,?_⟩⟩
  refine ⟨.tuple #[.slice none 0 0,.int .i64 4],by simp [results,Tryz.results73,go_sem,z0c,z1c],⟨.slice none 0 0,?_,?_⟩,hb.grown hg5 hb.size (fun k e=>by cases e;omega)⟩
  ·rw [hno];rfl
  ·rw [hno];exact KM.own_nil _ _
theorem pparse_any (s:ByteArray) (w:World) (hp:PlainAt w) (hs:s.size≤4294967000) :
  Calls Tryz.prog 73 #[.string s] w fun e w'=>TWPost w (termsW (wordsAns s.data.toList)) e w':=by
 by_cases h0:s.data.toList=[]
 ·have e:s=⟨#[]⟩:=by
   obtain ⟨⟨l⟩⟩:=s
   cases h0
   rfl
  subst e
  exact pparse_empty w
 ·exact pparse_words s w hp h0 hs
end
section
open Go.RowKit Go.Sort Go.Lib
set_option maxHeartbeats 1000000 in
theorem emis_any (x:Ed) (w:World) (hs:x.2.1.size≤maxLen):Calls Tryz.prog 141 #[.agg (encE x).toArray] w fun e w'=>e=.returned (.bool (!namedE x))∧Grown w w':=by
 obtain ⟨o,a,t⟩:=x
 simp only [encE,namedE] at hs ⊢
 go_enter Tryz.func141,Tryz.ntmps141
 go_wp2_with (go_at_call 180;refine (field_any _ _ hs).mono ?_;rintro e w' ⟨rfl,rfl⟩)
 go_ret
 exact ⟨rfl,(Grown.refl _).alloc _⟩
set_option maxHeartbeats 1000000 in
theorem elong_any (x:Ed) (w:World):Calls Tryz.prog 143 #[.agg (encE x).toArray] w fun e w'=>e=.returned (.bool (!shortE x))∧Grown w w':=by
 obtain ⟨o,a,t⟩:=x
 simp only [encE,shortE]
 have HE:Hid (decide ((128:Int)<t.size) = !decide (t.size≤128)):=by
  show _=_
  rw [Bool.eq_iff_iff];simp;omega
 go_enter Tryz.func143,Tryz.ntmps143
 go_wp2_with fail
 go_ret
 exact ⟨ret_bool HE.out,(Grown.refl _).alloc _⟩
set_option maxHeartbeats 2000000 in
theorem eunm_any (x:Ed) (w:World):Calls Tryz.prog 142 #[.agg (encE x).toArray] w fun e w'=>e=.returned (.bool (!rightE x))∧Grown w w':=by
 obtain ⟨o,a,t⟩:=x
 simp only [encE]
 by_cases h4:o=4
 ·have HE:Hid ((!t.toList.isEmpty) = !rightE (o,a,t)):=by
   show _=_
   unfold rightE
   have e1:decide (1≤o)=true:=decide_eq_true (by omega)
   have e2:decide (o≤5)=true:=decide_eq_true (by omega)
   have e3:decide (o≠4)=false:=decide_eq_false (by omega)
   simp only [e1,e2,e3,Bool.true_and,Bool.false_or]
   congr 1
   by_cases hz:t.size=0
   ·rw [sempty_of hz,decide_eq_true hz]
   ·rw [sfull_of hz,decide_eq_false hz]
  subst h4
  go_enter Tryz.func142,Tryz.ntmps142
  go_wp2_with fail
  go_ret
  exact ⟨ret_bool HE.out,(Grown.refl _).alloc _⟩
 ·by_cases h5:o=1∨o=2∨o=3∨o=5
  ·have HE:Hid (false = !rightE (o,a,t)):=by
    show _=_
    unfold rightE
    have e1:decide (1≤o)=true:=decide_eq_true (by omega)
    have e2:decide (o≤5)=true:=decide_eq_true (by omega)
    have e3:decide (o≠4)=true:=decide_eq_true (by omega)
    simp only [e1,e2,e3,Bool.true_and,Bool.true_or,Bool.not_true]
   rcases h5 with rfl|rfl|rfl|rfl <;>
   ·go_enter Tryz.func142,Tryz.ntmps142
    go_wp2_with fail
    go_ret
    exact ⟨ret_bool HE.out,(Grown.refl _).alloc _⟩
  ·have HE:Hid (true = !rightE (o,a,t)):=by
    show _=_
    unfold rightE
    by_cases e1:1≤o
    ·have e2:decide (o≤5)=false:=decide_eq_false (by omega)
     simp [e2]
    ·simp [e1]
   have n1:(o==1)=false:=by simp;omega
   have n2:(o==2)=false:=by simp;omega
   have n3:(o==3)=false:=by simp;omega
   have n4:(o==4)=false:=by simp;omega
   have n5:(o==5)=false:=by simp;omega
   clear h4 h5
   go_enter Tryz.func142,Tryz.ntmps142
   go_wp2_with fail
   go_ret
   exact ⟨ret_bool HE.out,(Grown.refl _).alloc _⟩
def Ef:Type:={ x:Ed // x.2.1.size≤maxLen∧x.2.2.size≤maxLen∧-9223372036854775808≤x.1∧x.1≤9223372036854775807 }
def efNone:Ef:=⟨(0,⟨#[]⟩,⟨#[]⟩),Nat.zero_le _,Nat.zero_le _,by decide,by decide⟩
set_option maxHeartbeats 1000000 in
theorem hasE_none (p:Option Addr) (c:Nat) (fv:Value) (w:World) :
  Calls Tryz.prog 140 #[.slice p 0 c,fv] w fun e w'=>e=.returned (.bool false)∧w'=w:=by
 have hix:Calls Tryz.prog 179 #[.slice p 0 c,fv] w fun e w'=>e=.returned (.int .i64 (-1))∧w'=w:=by
  go_enter Tryz.func179,Tryz.ntmps179
  go_wp2_with fail
  refine wp_loop_rounds 1 ?_
  rw [rounds_succ]
  go_wp2_with fail
  go_ret
  exact ⟨rfl,rfl⟩
 have HX:=hid hix
 clear hix
 go_enter Tryz.func140,Tryz.ntmps140
 go_wp2_with (first|(go_at_call 179;refine HX.out.mono ?_;rintro e w1 ⟨rfl,rfl⟩))
 go_ret
 exact ⟨rfl,rfl⟩
theorem ke_enc {w:World} {b off:Nat} {p:List Ed} (h:KE.At w b off p) (j:Nat) (hj:j<p.length) (i:Nat) (v:Value) (hv:(encE p[j])[i]? = some v):w.cell? ⟨b,off+j * 3+i,none⟩=some v:=h j hj i v hv
theorem hasE_any (f:Ed→Bool) (k:Nat) (lb:Array Value) (ent:∀args w,(callFunc k args).run Tryz.prog w=.ok (.enter k args) w) (v:Value) (p:List Ed) (w:World) (hv:KE.Is w v p) (hf:FitE p)
  (hk:∀(W:World) (x:Ed),Below w.heap.size w W→x.2.1.size≤maxLen→x.2.2.size≤maxLen→(-9223372036854775808≤x.1∧x.1≤9223372036854775807)→Calls Tryz.prog k (#[.agg (encE x).toArray]++lb) W fun e w'=>e=.returned (.bool (f x))∧Below w.heap.size w w') :
  Calls Tryz.prog 140 #[v,.func (.func k) #[] lb] w fun e w'=>e=.returned (.bool (p.any f))∧Below w.heap.size w w':=by
 obtain ⟨q,cap,rfl,hd⟩:=hv
 by_cases h0:p=[]
 ·subst h0
  refine (hasE_none q cap _ w).mono ?_
  rintro e w' ⟨rfl,rfl⟩
  exact ⟨rfl,Below.refl _ _⟩
 ·rcases hd with hd|⟨b,off,rfl,hx⟩
  ·exact absurd hd h0
  ·have hlen:0<p.length:=List.length_pos_iff.2 h0
   have hl:=hf.1
   unfold maxLen at hl
   have hfn:∀x∈p,x.2.1.size≤maxLen∧x.2.2.size≤maxLen∧-9223372036854775808≤x.1∧x.1≤9223372036854775807:=hf.2
   obtain ⟨zs,hzs⟩:∃zs:List Ef,zs.map (·.1)=p:=⟨p.attachWith _ hfn,List.attachWith_map_subtype_val ..⟩
   have hzl:zs.length=p.length:=by rw [←hzs,List.length_map]
   letI:Inhabited Ef:=⟨efNone⟩
   have hc:=AnyQ.slices_ContainsFunc (α:=Ef) Tryz.hasEdt 3 Tryz.isAgg47 Tryz.sizeOf47 (fun x=>encE x.1) (fun _=>rfl) (fun x=>f x.1) k lb ent b off p.length cap zs w
    (fun W x hb=>hk W x.1 hb x.2.1 x.2.2.1 x.2.2.2) (by omega) (by omega) (cell_block (hx 0 hlen 0 _ rfl))
    (fun j hj i u hu=>by
     have hj':j<p.length:=by omega
     rw [getElem!_pos zs j hj] at hu
     have e:(zs[j]).1=p[j]:=by subst hzs;simp
     rw [e] at hu
     exact ke_enc hx j hj' i u hu)
   change Calls Tryz.prog 140 _ _ _ at hc
   refine hc.mono ?_
   rintro e w' ⟨rfl,hb⟩
   refine ⟨ret_bool ?_,hb⟩
   rw [List.take_of_length_le (by omega),←hzs]
   simp [List.any_map,Function.comp_def]
theorem enters_emis:∀args w,(callFunc 141 args).run Tryz.prog w=.ok (.enter 141 args) w:=enters_of Tryz.func141 (by kernel_rfl) rfl
theorem enters_eunm:∀args w,(callFunc 142 args).run Tryz.prog w=.ok (.enter 142 args) w:=enters_of Tryz.func142 (by kernel_rfl) rfl
theorem enters_elong:∀args w,(callFunc 143 args).run Tryz.prog w=.ok (.enter 143 args) w:=enters_of Tryz.func143 (by kernel_rfl) rfl
theorem any_notE (p:List Ed) (f:Ed→Bool):p.any (fun x=>!f x) = !p.all f:=by
 induction p with
 | nil=>rfl
 | cons x p ih=>simp only [List.any_cons,List.all_cons,ih,Bool.not_and]
theorem hasMisE (v:Value) (p:List Ed) (w:World) (hv:KE.Is w v p) (hf:FitE p):Calls Tryz.prog 140 #[v,.func (.func 141) #[] #[]] w fun e w'=>e=.returned (.bool (!p.all namedE))∧Below w.heap.size w w':=by
 have:=hasE_any (fun x=>!namedE x) 141 #[] enters_emis v p w hv hf (fun W x hb h1 _ _=>(emis_any x W h1).mono fun _ _ ⟨h2,h3⟩=>⟨h2,hb.trans (h3.below.mono hb.size)⟩)
 rwa [any_notE] at this
theorem hasUnmE (v:Value) (p:List Ed) (w:World) (hv:KE.Is w v p) (hf:FitE p):Calls Tryz.prog 140 #[v,.func (.func 142) #[] #[]] w fun e w'=>e=.returned (.bool (!p.all rightE))∧Below w.heap.size w w':=by
 have:=hasE_any (fun x=>!rightE x) 142 #[] enters_eunm v p w hv hf (fun W x hb _ _ _=>(eunm_any x W).mono fun _ _ ⟨h2,h3⟩=>⟨h2,hb.trans (h3.below.mono hb.size)⟩)
 rwa [any_notE] at this
theorem hasLngE (v:Value) (p:List Ed) (w:World) (hv:KE.Is w v p) (hf:FitE p):Calls Tryz.prog 140 #[v,.func (.func 143) #[] #[]] w fun e w'=>e=.returned (.bool (!p.all shortE))∧Below w.heap.size w w':=by
 have:=hasE_any (fun x=>!shortE x) 143 #[] enters_elong v p w hv hf (fun W x hb _ _ _=>(elong_any x W).mono fun _ _ ⟨h2,h3⟩=>⟨h2,hb.trans (h3.below.mono hb.size)⟩)
 rwa [any_notE] at this
set_option maxHeartbeats 2000000 in
set_option maxRecDepth 100000 in
theorem pmayE_raw (v:Value) (p:List Ed) (w:World) (hv:KE.Is w v p) (hf:FitE p) :
  Calls Tryz.prog 100 #[v] w fun e w'=>e=.returned (.int .i64 (mayE p))∧Below w.heap.size w w':=by
 obtain ⟨q,cap,hvv⟩:∃q cap,v=.slice q p.length cap:=by obtain ⟨q,cap,h,_⟩:=hv;exact ⟨q,cap,h⟩
 subst hvv
 have HV:=hid hv
 have HF:=hid hf
 have H1:=hid (hasMisE _ p w hv hf)
 obtain ⟨m,hm⟩:∃m,mayE p=m:=⟨_,rfl⟩
 rw [hm]
 have HM:=hid hm
 clear hm hv hf
 unfold mayE at HM
 by_cases h16:16<p.length
 ·have h16z:(16:Int)<(p.length:Int):=by omega
  have HR:Hid (5=m):=by have:=HM.out;rw [if_pos h16] at this;exact this
  go_enter Tryz.func100,Tryz.ntmps100
  go_wp2_with fail
  go_ret
  exact ⟨ret_int HR.out,Below.refl _ _⟩
 ·have h16z:¬ (16:Int)<(p.length:Int):=by omega
  rw [if_neg h16] at HM
  cases a1:p.all namedE with
  | false =>
   rw [a1] at H1
   have HR:Hid (2=m):=by have:=HM.out;rw [if_pos a1] at this;exact this
   go_enter Tryz.func100,Tryz.ntmps100
   go_wp2_with (go_at_call 140;refine H1.out.mono ?_;rintro e w1 ⟨rfl,hb1⟩)
   go_ret
   exact ⟨ret_int HR.out,hb1⟩
  | true =>
   rw [a1] at H1
   rw [if_neg (by rw [a1];simp)] at HM
   have H2:Hid (∀W,Below w.heap.size w W→Calls Tryz.prog 140 #[.slice q p.length cap,.func (.func 142) #[] #[]] W fun e w'=>e=.returned (.bool (!p.all rightE))∧Below W.heap.size W w'):=fun W hb=>hasUnmE _ p W (Kind.is_kept HV.out hb) HF.out
   have H3:Hid (∀W,Below w.heap.size w W→Calls Tryz.prog 140 #[.slice q p.length cap,.func (.func 143) #[] #[]] W fun e w'=>e=.returned (.bool (!p.all shortE))∧Below W.heap.size W w'):=fun W hb=>hasLngE _ p W (Kind.is_kept HV.out hb) HF.out
   cases a2:p.all rightE with
   | false =>
    rw [a2] at H2
    have HR:Hid (1=m):=by have:=HM.out;rw [if_pos a2] at this;exact this
    go_enter Tryz.func100,Tryz.ntmps100
    go_wp2_with (first|(go_at_call 140;refine H1.out.mono ?_;rintro e w1 ⟨rfl,hb1⟩)|(go_at_call 140;refine (H2.out w1 hb1).mono ?_;rintro e w2 ⟨rfl,hb2⟩))
    go_ret
    exact ⟨ret_int HR.out,bel_then hb1 hb1.size hb2⟩
   | true =>
    rw [a2] at H2
    rw [if_neg (by rw [a2];simp)] at HM
    have h12:Hid (∀w1 w2,Below w.heap.size w w1→Below w1.heap.size w1 w2→Below w.heap.size w w2):=fun w1 w2 h k=>bel_then h h.size k
    cases a3:p.all shortE with
    | false =>
     rw [a3] at H3
     have HR:Hid (5=m):=by have:=HM.out;rw [if_pos a3] at this;exact this
     go_enter Tryz.func100,Tryz.ntmps100
     go_wp2_with (first|(go_at_call 140;refine H1.out.mono ?_;rintro e w1 ⟨rfl,hb1⟩)|(go_at_call 140;refine (H2.out w1 hb1).mono ?_;rintro e w2 ⟨rfl,hb2⟩;have hb12:=h12.out _ _ hb1 hb2)|(go_at_call 140;refine (H3.out w2 hb12).mono ?_;rintro e w3 ⟨rfl,hb3⟩))
     go_ret
     exact ⟨ret_int HR.out,bel_then hb12 hb12.size hb3⟩
    | true =>
     rw [a3] at H3
     have HR:Hid (0=m):=by have:=HM.out;rw [if_neg (by rw [a3];simp)] at this;exact this
     go_enter Tryz.func100,Tryz.ntmps100
     go_wp2_with (first|(go_at_call 140;refine H1.out.mono ?_;rintro e w1 ⟨rfl,hb1⟩)|(go_at_call 140;refine (H2.out w1 hb1).mono ?_;rintro e w2 ⟨rfl,hb2⟩;have hb12:=h12.out _ _ hb1 hb2)|(go_at_call 140;refine (H3.out w2 hb12).mono ?_;rintro e w3 ⟨rfl,hb3⟩))
     go_ret
     exact ⟨ret_int HR.out,bel_then hb12 hb12.size hb3⟩
end
section
open Go.RowKit Go.Lib
theorem belE_drew {B:Nat} {a w:World} (h:Below B a w) (n:Nat):Below B a (w.drewN n):=⟨h.os,h.tape,h.output,h.size,h.block⟩
def BoxE (w:World) (g:Nat) (x:Ed):Prop:=w.heap[g]? = some (.cells #[.int .i64 x.1,.string x.2.1,.string x.2.2] 47 (0,0))
theorem BoxE.cells {w:World} {g:Nat} {x:Ed} (h:BoxE w g x):w.cell? ⟨g,0,none⟩=some (.int .i64 x.1)∧w.cell? ⟨g,1,none⟩=some (.string x.2.1)∧w.cell? ⟨g,2,none⟩=some (.string x.2.2):=by
 rw [Lib.cell_of_heap h,Lib.cell_of_heap h,Lib.cell_of_heap h]
 exact ⟨rfl,rfl,rfl⟩
theorem BoxE.lt {w:World} {g:Nat} {x:Ed} (h:BoxE w g x):g<w.heap.size:=(Array.getElem?_eq_some_iff.1 h).1
theorem BoxE.on {w w':World} {g:Nat} {x:Ed} (h:BoxE w g x) (hb:Below w.heap.size w w'):BoxE w' g x:=(hb.block g h.lt).trans h
theorem boxE_new (w:World) (x:Ed):BoxE (w.alloc (.cells #[.int .i64 x.1,.string x.2.1,.string x.2.2] 47)) w.heap.size x:=heap_alloc_new w _
theorem boxE_put {W:World} {R:Nat} {x:Ed} (h:BoxE W R x) (y:Ed) :
  BoxE (((W.setCell ⟨R,0,none⟩ (.int .i64 y.1)).setCell ⟨R,1,none⟩ (.string y.2.1)).setCell ⟨R,2,none⟩ (.string y.2.2)) R y :=
 heap_setCell_same _ R 2 _ _ _ (heap_setCell_same _ R 1 _ _ _ (heap_setCell_same W R 0 _ _ _ h))
theorem boxE_text {W:World} {R:Nat} {x:Ed} (h:BoxE W R x) (t:ByteArray):BoxE (W.setCell ⟨R,2,none⟩ (.string t)) R (x.1,x.2.1,t):=heap_setCell_same W R 2 _ _ _ h
theorem boxE_free {W:World} {R:Nat} {x:Ed} (h:BoxE W R x):W.frozen? ⟨R,0,none⟩=false∧W.frozen? ⟨R,1,none⟩=false∧W.frozen? ⟨R,2,none⟩=false :=
 ⟨Lib.frozen_of_heap h 0,Lib.frozen_of_heap h 1,Lib.frozen_of_heap h 2⟩
theorem belE_put {B R:Nat} {w W:World} (h:Below B w W) (hR:B≤R) (y:Ed):Below B w (((W.setCell ⟨R,0,none⟩ (.int .i64 y.1)).setCell ⟨R,1,none⟩ (.string y.2.1)).setCell ⟨R,2,none⟩ (.string y.2.2)) :=
 ((h.setCell (p:=⟨R,0,none⟩) hR _).setCell (p:=⟨R,1,none⟩) hR _).setCell (p:=⟨R,2,none⟩) hR _
end
section
open Go.RowKit Go.Lib Go.ChangeMaps
def signsAH:ByteArray:=⟨#[58,43,45,126,61]⟩
theorem signs_k (c:UInt8):signsAH.data.toList.contains c=isK c:=by
 rw [Bool.eq_iff_iff]
 constructor
 ·intro h
  have:c∈signsAH.data.toList:=by simpa using h
  simp [signsAH] at this
  rcases this with rfl|rfl|rfl|rfl|rfl<;>decide
 ·intro h
  rcases kind_sign h with rfl|rfl|rfl|rfl|rfl<;>decide
def FirstK (l:List UInt8) (k:Int):Prop:=(k=-1∧∀c∈l,isK c=false)∨∃i:Nat,k=i∧∃h:i<l.length,isK l[i]=true∧∀c∈l.take i,isK c=false
theorem indexAny_firstH:∀l:List UInt8,FirstK l (Lib.indexAny l signsAH.data.toList)
 | []=>Or.inl ⟨rfl,fun c hc=>by simp at hc⟩
 | b::l=>by
  have ih:=indexAny_firstH l
  unfold Lib.indexAny
  rw [signs_k]
  cases hb:isK b with
  | true =>
   rw [if_pos rfl]
   exact Or.inr ⟨0,rfl,by simp,hb,fun c hc=>by simp at hc⟩
  | false =>
   rw [if_neg (by simp)]
   rcases ih with ⟨h1,h2⟩|⟨i,h1,hi,h3,h4⟩
   ·rw [h1]
    refine Or.inl ⟨rfl,fun c hc=>?_⟩
    rcases List.mem_cons.1 hc with rfl|hc
    ·exact hb
    ·exact h2 c hc
   ·rw [h1]
    have:((i:Int) == -1)=false:=by simp
    rw [this,if_neg (by simp)]
    refine Or.inr ⟨i+1,rfl,by simpa using hi,by simpa using h3,fun c hc=>?_⟩
    rw [List.take_succ_cons] at hc
    rcases List.mem_cons.1 hc with rfl|hc
    ·exact hb
    ·exact h4 c hc
theorem get_atH (s:ByteArray) (i:Nat) (h:i<s.size):s.get! i=s[i]'h:=by
 simp [ByteArray.get!,getElem!_pos,h]
 rfl
theorem dec_highH (s:ByteArray) (pos:Nat) (h:pos<s.size) (hb:128≤(s[pos]'h).toNat) :
  128≤(Utf8.decode s pos).1∧(Utf8.decode s pos).1≤2097151∧1≤(Utf8.decode s pos).2∧pos+(Utf8.decode s pos).2≤s.size∧∀j,pos≤j→j<pos+(Utf8.decode s pos).2→128≤(s.get! j).toNat:=by
 have e0:(s.get! (pos+0)).toNat=(s[pos]'h).toNat:=by rw [Nat.add_zero,get_atH s pos h]
 have hlt:∀k,(s.get! (pos+k)).toNat<256:=fun k=>UInt8.toNat_lt _
 have hcont:∀k,(decide (pos+k<s.size)&&(s.get! (pos+k)).toNat / 64==2)=true→pos+k<s.size∧128≤(s.get! (pos+k)).toNat:=fun k hk=>by
  rw [Bool.and_eq_true] at hk
  have h1:=of_decide_eq_true hk.1
  have h2:=beq_iff_eq.1 hk.2
  exact ⟨h1,by omega⟩
 have hp0:128≤(s.get! pos).toNat:=by rw [get_atH s pos h];exact hb
 have hone:∀j,pos≤j→j<pos+1→128≤(s.get! j).toNat:=fun j h1 h2=>by
  have:j=pos:=by omega
  subst this;exact hp0
 have herr:(128≤Utf8.runeError)∧Utf8.runeError≤2097151:=by decide
 unfold Utf8.decode
 simp only [e0]
 have h80:¬ (s[pos]'h).toNat<128:=by omega
 rw [if_neg h80]
 have hbound:(s[pos]'h).toNat<256:=UInt8.toNat_lt _
 have l1:=hlt 1
 have l2:=hlt 2
 have l3:=hlt 3
 split
 ·rename_i h1
  rw [Bool.and_eq_true] at h1
  obtain ⟨c1,c2⟩:=hcont 1 h1.2
  split
  ·rename_i h2
   refine ⟨h2,by omega,by omega,by omega,fun j g1 g2=>?_⟩
   rcases (show j=pos∨j=pos+1 by omega) with rfl|rfl
   ·exact hp0
   ·exact c2
  ·exact ⟨herr.1,herr.2,by omega,by omega,hone⟩
 ·split
  ·rename_i h1
   rw [Bool.and_eq_true,Bool.and_eq_true] at h1
   obtain ⟨c1,c2⟩:=hcont 1 h1.1.2
   obtain ⟨d1,d2⟩:=hcont 2 h1.2
   split
   ·rename_i h2
    rw [Bool.and_eq_true] at h2
    have h3:=of_decide_eq_true h2.1
    refine ⟨by omega,by omega,by omega,by omega,fun j g1 g2=>?_⟩
    rcases (show j=pos∨j=pos+1∨j=pos+2 by omega) with rfl|rfl|rfl
    ·exact hp0
    ·exact c2
    ·exact d2
   ·exact ⟨herr.1,herr.2,by omega,by omega,hone⟩
  ·split
   ·rename_i h1
    rw [Bool.and_eq_true,Bool.and_eq_true,Bool.and_eq_true] at h1
    obtain ⟨c1,c2⟩:=hcont 1 h1.1.1.2
    obtain ⟨d1,d2⟩:=hcont 2 h1.1.2
    obtain ⟨f1,f2⟩:=hcont 3 h1.2
    split
    ·rename_i h2
     rw [Bool.and_eq_true] at h2
     have h3:=of_decide_eq_true h2.1
     refine ⟨by omega,by omega,by omega,by omega,fun j g1 g2=>?_⟩
     rcases (show j=pos∨j=pos+1∨j=pos+2∨j=pos+3 by omega) with rfl|rfl|rfl|rfl
     ·exact hp0
     ·exact c2
     ·exact d2
     ·exact f2
    ·exact ⟨herr.1,herr.2,by omega,by omega,hone⟩
   ·exact ⟨herr.1,herr.2,by omega,by omega,hone⟩
theorem enc_lastH (r:Int) (h:128≤r):∃m:Nat,1≤m∧m≤3∧∃hs:(Utf8.encode r).size=m+1,128≤((Utf8.encode r)[m]'(by omega)).toNat:=by
 have hof:∀n:Nat,128≤n→n<256→128≤(UInt8.ofNat n).toNat:=fun n h1 h2=>by
  rw [UInt8.toNat_ofNat_of_lt' (by simpa using h2)];exact h1
 unfold Utf8.encode
 obtain ⟨c,hc⟩:∃c,(if Utf8.valid r=true then r.toNat else Utf8.runeError)=c:=⟨_,rfl⟩
 have hc128:128≤c:=by
  rw [←hc]
  split
  ·omega
  ·decide
 simp only [hc]
 have h0:¬ c<128:=by omega
 simp only [if_neg h0]
 by_cases h1:c<2048
 ·simp only [if_pos h1]
  exact ⟨1,by omega,by omega,rfl,hof _ (by omega) (by omega)⟩
 ·simp only [if_neg h1]
  by_cases h2:c<65536
  ·simp only [if_pos h2]
   exact ⟨2,by omega,by omega,rfl,hof _ (by omega) (by omega)⟩
  ·simp only [if_neg h2]
   exact ⟨3,by omega,by omega,rfl,hof _ (by omega) (by omega)⟩
theorem run_next_atH (W:World) (N:Nat) (s:ByteArray) (pos:Nat) (ty:TypeId) (hN:W.heap[N]? = some (.stringIter s pos)) (h:pos<s.size) :
  (Instr.next (.pointer (some ⟨N,0,none⟩)) true ty).run Tryz.prog W =
   .ok (.tuple #[.bool true,.int .i64 pos,.int .i32 (Utf8.decode s pos).1]) (setBlock W N (.stringIter s (pos+(Utf8.decode s pos).2))):=by
 have hlt:=(Array.getElem?_eq_some_iff.1 hN).1
 simp [Instr.next,getObj,setObj,Sem.run,hN,h,goInt,Result.andThen,setBlock]
theorem run_next_stopH (W:World) (N:Nat) (s:ByteArray) (pos:Nat) (ty:TypeId) (hN:W.heap[N]? = some (.stringIter s pos)) (h:¬ pos<s.size) :
  (Instr.next (.pointer (some ⟨N,0,none⟩)) true ty).run Tryz.prog W=.ok (.tuple #[.bool false]) W:=by
 simp [Instr.next,getObj,Sem.run,hN,h,Result.andThen]
theorem signs_lowH (x:UInt8) (h:x∈(⟨#[58,43,45,126,61]⟩:ByteArray).data.toList):x.toNat<128:=by
 simp at h
 rcases h with rfl|rfl|rfl|rfl|rfl<;>decide
set_option maxHeartbeats 4000000 in
set_option maxRecDepth 100000 in
theorem ixrune_errH (w:World) :
  Calls Tryz.prog 189 #[.string ⟨#[58,43,45,126,61]⟩,.int .i32 65533] w fun e w'=>e=.returned (.int .i64 (-1))∧Grown w w':=by
 obtain ⟨s,hs⟩:∃s:ByteArray,⟨#[58,43,45,126,61]⟩=s:=⟨_,rfl⟩
 have h7:s.size=5:=by rw [←hs];rfl
 have hlow:∀(i:Nat) (h:i<s.size),(s[i]'h).toNat<128:=by
  subst hs
  intro i h
  exact signs_lowH _ (List.getElem_mem (l:=(⟨#[58,43,45,126,61]⟩:ByteArray).data.toList) (n:=i) h)
 rw [hs]
 clear hs
 go_enter Tryz.func189,Tryz.ntmps189
 go_wp2_with fail
 go_loopg [5,6] 5 (fun g _ _ wx=>∃i:Nat,i+g=5∧wx=w.iter s i)
 case atStart=>exact ⟨0,by omega,rfl⟩
 case round =>
  obtain ⟨i,hig,rfl⟩:=hrel
  cases gk with
  | zero =>
   have hnx:=fun ty=>run_next_end (P:=Tryz.prog) w s i ty (by omega)
   go_wp2_with fail
   go_ret
   exact ⟨rfl,(Grown.refl _).alloc _⟩
  | succ g =>
   have hi:i<s.size:=by omega
   have hx:=hlow i hi
   have hnx:=fun ty=>run_next_ascii (P:=Tryz.prog) w s i ty hi hx
   have hne:(((s[i]'hi).toNat:Int)==65533)=false:=by simp;omega
   clear hlow
   go_wp2_with fail
   go_roundg g
   case measure=>omega
   case rel=>exact ⟨i+1,by omega,rfl⟩
set_option maxHeartbeats 4000000 in
set_option maxRecDepth 100000 in
theorem ixrune_validH (r:Int) (h1:128≤r) (h2:r≤2097151) (hv:Lib.validRune r=true) (hne:r≠65533) (w:World) :
  Calls Tryz.prog 189 #[.string ⟨#[58,43,45,126,61]⟩,.int .i32 r] w fun e w'=>e=.returned (.int .i64 (-1))∧Grown w w':=by
 obtain ⟨m,hm1,hm3,hs,hb⟩:=enc_lastH r h1
 obtain ⟨pat,hpat⟩:∃pat,Utf8.encode r=pat:=⟨_,rfl⟩
 simp only [hpat] at hs hb
 obtain ⟨b,hbe⟩:∃b,pat[m]'(by omega)=b:=⟨_,rfl⟩
 rw [hbe] at hb
 have hz:(0:Int)≤r:=by omega
 have h128:decide (r<128)=false:=decide_eq_false (by omega)
 have hne':(r==65533)=false:=by simpa using hne
 have HV:=hid hv
 obtain ⟨s,hse⟩:∃s:ByteArray,⟨#[58,43,45,126,61]⟩=s:=⟨_,rfl⟩
 have h7:s.size=5:=by rw [←hse];rfl
 have hlow:∀x∈s.data.toList,x.toNat<128:=by subst hse;exact signs_lowH
 rw [hse]
 clear hv hne hse
 have hback:((b.toNat:Int)).toNat.toUInt8=b:=by simp
 have HIX:Hid (∀W k,Calls Tryz.prog 159 #[.string (s.extract k s.size),.int .u8 b.toNat] W fun e w'=>e=.returned (.int .i64 (-1))∧w'=W):=fun W k=>by
  have:=Tryz.strings_IndexByte (s.extract k s.size) b.toNat W
  rw [hback,ix_none (fun hc=>by
   have hm:b∈s.data.toList:=by
    have e:(s.extract k s.size).data.toList=s.data.toList.drop k:=by
     have:=ext_drop s k
     exact this
    rw [e] at hc
    exact List.mem_of_mem_drop hc
   have:=hlow b hm
   omega)] at this
  exact this
 have hsm:m<s.size:=by omega
 obtain ⟨c,hce⟩:∃c,s[m]'hsm=c:=⟨_,rfl⟩
 have hc:c.toNat<128:=by
  rw [←hce]
  exact hlow _ (List.getElem_mem (l:=s.data.toList) (n:=m) (by simpa using hsm))
 have hx:((c.toNat:Int) != (b.toNat:Int))=true:=by simp;omega
 have hmz:(0:Int)≤m:=by omega
 have hms:(m:Int)<(s.size:Int):=by omega
 have hmp:(m:Int)<(pat.size:Int):=by omega
 have hpz:(pat.size:Int)-1=(m:Int):=by omega
 have hww:IntKind.i64.wrap ((m:Int)+1)=(m:Int)+1:=wrap_i64E _ (by omega) (by omega)
 have hm1s:(m:Int)+1≤(s.size:Int):=by omega
 have hm0z:(0:Int)≤(m:Int)+1:=by omega
 have hmt:((m:Int)+1).toNat=m+1:=by omega
 have hmp2:m<pat.size:=by omega
 have hbe2:pat[m]'hmp2=b:=hbe
 clear hbe
 clear h7 hs
 clear hlow
 go_enter Tryz.func189,Tryz.ntmps189
 go_wp2_with (first|(go_at_call 214;refine (Tryz.utf8_ValidRune _ _).mono ?_;rintro e w1 ⟨rfl,rfl⟩;rw [HV.out]))
 go_step3
 go_wp2_with fail
 refine wp_loop_rounds 1 ?_
 rw [rounds_succ]
 go_wp2_with fail
 go_step3
 go_wp2_with fail
 go_quiet (fail)
 go_wp2_with fail
 have hG2:=Grown.draws w1 nq
 generalize w1.drewN nq=W2 at hG2 ⊢
 go_quiet (first|(go_at_call 159;refine Calls.quiet_of_same (HIX.out _ _)))
 go_wp2_with fail
 repeat (first|rw [Exit.noGoto_ret]|simp only [Exit.inBlock,Exit.then])
 go_ret
 exact ⟨rfl,hG2.drewN _⟩
set_option maxHeartbeats 2000000 in
set_option maxRecDepth 100000 in
theorem ixrune_noneH (r:Int) (h1:128≤r) (h2:r≤2097151) (w:World) :
  Calls Tryz.prog 189 #[.string ⟨#[58,43,45,126,61]⟩,.int .i32 r] w fun e w'=>e=.returned (.int .i64 (-1))∧Grown w w':=by
 by_cases hne:r=65533
 ·subst hne;exact ixrune_errH w
 ·cases hv:Lib.validRune r with
  | true=>exact ixrune_validH r h1 h2 hv hne w
  | false =>
   have h128:decide (r<128)=false:=decide_eq_false (by omega)
   have hz:(0:Int)≤r:=by omega
   have hne':(r==65533)=false:=by simpa using hne
   have HV:=hid hv
   clear hv hne
   go_enter Tryz.func189,Tryz.ntmps189
   go_wp2_with (first|(go_at_call 214;refine (Tryz.utf8_ValidRune _ _).mono ?_;rintro e w1 ⟨rfl,rfl⟩;rw [HV.out]))
   repeat (first|rw [Exit.noGoto_ret]|simp only [Exit.inBlock,Exit.then])
   go_ret
   exact ⟨rfl,Grown.refl _⟩
def ItAtH (W:World) (N:Nat) (s:ByteArray) (pos:Nat):Prop:=W.heap[N]? = some (.stringIter s pos)
theorem it_stepH {w W:World} {s:ByteArray} {pos:Nat} (h:ItAtH W w.heap.size s pos) (hb:Below w.heap.size w W) (p':Nat) :
  ItAtH (setBlock W w.heap.size (.stringIter s p')) w.heap.size s p'∧Below w.heap.size w (setBlock W w.heap.size (.stringIter s p')):=by
 have hlt:=(Array.getElem?_eq_some_iff.1 h).1
 refine ⟨by unfold ItAtH setBlock;simp [hlt],hb.os,hb.tape,hb.output,by simpa [setBlock] using hb.size,fun k hk=>?_⟩
 refine Eq.trans ?_ (hb.block k hk)
 show (W.heap.setIfInBounds w.heap.size _)[k]? = _
 rw [Array.getElem?_setIfInBounds,if_neg (by omega)]
set_option maxHeartbeats 4000000 in
set_option maxRecDepth 100000 in
theorem ixany_shortH (s:ByteArray) (w:World) (h8:s.size≤8) :
  Calls Tryz.prog 158 #[.string s,.string ⟨#[58,43,45,126,61]⟩] w fun e w'=>(∃k,e=.returned (.int .i64 k)∧FirstK s.data.toList k)∧Below w.heap.size w w':=by
 have h8z:decide ((8:Int)<(s.size:Int))=false:=decide_eq_false (by omega)
 obtain ⟨cs,hcs⟩:∃cs:ByteArray,⟨#[58,43,45,126,61]⟩=cs:=⟨_,rfl⟩
 have HCS:=hid hcs
 have hemp:cs.toList.isEmpty=false:=sfull_of (by rw [←hcs];decide)
 have hn1:((cs.size:Int)==1)=false:=by rw [←hcs];rfl
 rw [hcs]
 clear hcs
 go_enter Tryz.func158,Tryz.ntmps158
 go_wp2_with (go_at_call 190;refine (Tryz.strings_shouldUseASCIISet _ _).mono ?_;rintro e w' ⟨rfl,hw⟩;rw [hw,h8z])
 go_loopg [9,10] s.size (fun g _ _ wx=>∃i:Nat,i≤s.size∧s.size-i≤g∧Hid (ItAtH wx w.heap.size s i)∧Hid (Below w.heap.size w wx)∧Hid (∀c∈s.data.toList.take i,isK c=false))
 case atStart=>exact ⟨0,by omega,by omega,World.iter_heap _ _ _,(Below.refl _ _).alloc (Nat.le_refl _) _,fun c hc=>by simp at hc⟩
 case round =>
  obtain ⟨i,hi,hg,HI,HB,HN⟩:=hrel
  by_cases hlt:i<s.size
  ·have hil:i<s.data.toList.length:=by simpa using hlt
   have hnx:=fun ty=>run_next_atH wr w.heap.size s i ty HI.out hlt
   obtain ⟨x,hx⟩:∃x:UInt8,s[i]'hlt=x:=⟨_,rfl⟩
   have hxl:s.data.toList[i]=x:=hx
   by_cases hx128:x.toNat<128
   ·have hdec:=decode_ascii s i hlt (by rw [hx];exact hx128)
    rw [hx] at hdec
    rw [hdec] at hnx
    obtain ⟨hi2,hb2⟩:=it_stepH HI.out HB.out (i+1)
    simp only at hnx
    obtain ⟨W1,hW1⟩:∃W1,setBlock wr w.heap.size (.stringIter s (i+1))=W1:=⟨_,rfl⟩
    rw [hW1] at hnx hi2 hb2
    have HI2:=hid hi2
    have HB2:=hid hb2
    have HXL:=hid hxl
    have hback:((x.toNat:Int)).toNat.toUInt8=x:=by simp
    have hcon:=Lib.contains_iff_indexByte cs.data.toList x
    have e1:cs.data.toList.contains x=isK x:=by rw [←HCS.out];exact signs_k x
    rw [e1] at hcon
    cases hop:isK x with
    | true =>
     rw [hop] at hcon
     have hge:(0:Int)≤Lib.indexByte cs.data.toList x:=of_decide_eq_true hcon.symm
     have HF:Hid (FirstK s.data.toList (i:Int)):=Or.inr ⟨i,rfl,hil,by rw [hxl];exact hop,HN.out⟩
     clear hcon e1 hxl hx hW1 hi2 hb2 hdec hop
     go_wp2_with (go_at_call 189;refine (Tryz.strings_IndexRune_ascii _ _ _ (by omega) (by omega)).mono ?_;rintro e w' ⟨rfl,hw⟩;rw [hw,hback])
     go_ret
     exact ⟨⟨_,rfl,HF.out⟩,HB2.out⟩
    | false =>
     rw [hop] at hcon
     have hge:¬ ((0:Int)≤Lib.indexByte cs.data.toList x):=of_decide_eq_false hcon.symm
     have HF:Hid (∀c∈s.data.toList.take (i+1),isK c=false):=fun c hc=>by
      rw [List.take_succ_eq_append_getElem hil,List.mem_append,List.mem_singleton] at hc
      rcases hc with hc|hc
      ·exact HN.out c hc
      ·rw [hc,hxl];exact hop
     clear hcon e1 hxl hx hW1 hi2 hb2 hdec hop
     go_wp2_with (go_at_call 189;refine (Tryz.strings_IndexRune_ascii _ _ _ (by omega) (by omega)).mono ?_;rintro e w' ⟨rfl,hw⟩;rw [hw,hback])
     go_roundg (s.size-(i+1))
     case measure=>omega
     case rel=>exact ⟨i+1,by omega,by omega,HI2,HB2,HF⟩
   ·obtain ⟨r1,r2,r3,r4,r5⟩:=dec_highH s i hlt (by rw [hx];omega)
    obtain ⟨hi2,hb2⟩:=it_stepH HI.out HB.out (i+(Utf8.decode s i).2)
    obtain ⟨r,hr⟩:∃r,(Utf8.decode s i).1=r:=⟨_,rfl⟩
    obtain ⟨k,hk⟩:∃k,(Utf8.decode s i).2=k:=⟨_,rfl⟩
    rw [hr,hk] at hnx
    rw [hr] at r1 r2
    rw [hk] at r3 r4 r5 hi2 hb2
    obtain ⟨W1,hW1⟩:∃W1,setBlock wr w.heap.size (.stringIter s (i+k))=W1:=⟨_,rfl⟩
    rw [hW1] at hnx hi2 hb2
    have HF:Hid (∀c∈s.data.toList.take (i+k),isK c=false):=fun c hc=>by
     obtain ⟨j,hj,rfl⟩:=List.mem_iff_getElem.1 hc
     rw [List.length_take] at hj
     rw [List.getElem_take]
     by_cases hji:j<i
     ·exact HN.out _ (List.mem_iff_getElem.2 ⟨j,by rw [List.length_take];omega,by rw [List.getElem_take]⟩)
     ·have hjs:j<s.size:=by have:=hj;simp at this;omega
      have h128:=r5 j (by omega) (by omega)
      rw [get_atH s j hjs] at h128
      have e:s.data.toList[j]'(by simpa using hjs)=s[j]'hjs:=rfl
      rw [e]
      cases hop:isK (s[j]'hjs) with
      | false=>rfl
      | true=>rcases kind_sign hop with h|h|h|h|h<;>(rw [h] at h128;exact absurd h128 (by decide))
    have HIR:Hid (Calls Tryz.prog 189 #[.string cs,.int .i32 r] W1 fun e w'=>e=.returned (.int .i64 (-1))∧Grown W1 w'):=by
     show Calls _ _ _ _ _
     rw [←HCS.out]
     exact ixrune_noneH r (by omega) (by omega) W1
    have HI2:=hid hi2
    have HB2:=hid hb2
    clear hxl hx hW1 hi2 hb2 hr hk r5
    go_wp2_with (go_at_call 189;refine HIR.out.mono ?_;rintro e w2 ⟨rfl,hg2⟩)
    go_roundg (s.size-(i+k))
    case measure=>omega
    case rel=>exact ⟨i+k,by omega,by omega,(hg2.below.block _ (Array.getElem?_eq_some_iff.1 HI2.out).1).trans HI2.out,bel_then HB2.out HB2.out.size hg2.below,HF⟩
  ·have hi':i=s.size:=by omega
   have hnx:=fun ty=>run_next_stopH wr w.heap.size s i ty HI.out hlt
   have HF:Hid (FirstK s.data.toList (-1)):=Or.inl ⟨rfl,fun c hc=>HN.out c (by rw [List.take_of_length_le (by simp;omega)];exact hc)⟩
   go_wp2_with fail
   go_ret
   exact ⟨⟨_,rfl,HF.out⟩,HB.out⟩
theorem ixany_anyH (s:ByteArray) (w:World) (hs:s.size≤4294967000) :
  Calls Tryz.prog 158 #[.string s,.string ⟨#[58,43,45,126,61]⟩] w fun e w'=>(∃k,e=.returned (.int .i64 k)∧FirstK s.data.toList k)∧Below w.heap.size w w':=by
 by_cases h8:s.size≤8
 ·exact ixany_shortH s w h8
 ·refine (Tryz.strings_IndexAny_long (fun _=>by kernel_rfl) s ⟨#[58,43,45,126,61]⟩ w (by decide) (by omega) (by omega) (by decide) (fun j b hb=>signs_lowH b (List.mem_of_getElem? hb))).mono ?_
  rintro e w' ⟨rfl,rfl⟩
  exact ⟨⟨_,rfl,indexAny_firstH _⟩,((Below.refl _ _).alloc (Nat.le_refl _) _).alloc (by simp) _⟩
end
section
theorem at_drop0 {ops:Array Oper} {i:Nat} {oi:Oper} {rest:List Oper} (h:ops.toList.drop i=oi::rest):ops[i]? = some oi:=by
 rw [←Array.getElem?_toList,←List.head?_drop,h];rfl
section
variable {P:Program} {ops:Array Oper} {Q:Exit→Act→World→Prop} {md:Region.Mode} {S:World→Prop}
theorem tkv (i:Nat) {fuel:Nat} {listed:Array Bool} {a:Act} {w:World} (v:Value) {oi:Oper} {rest:List Oper} (hS:S w)
  (h:wpAnyH P md ops Q S fuel (listed.setIfInBounds i true) (a.put oi.dst v) w) (hd:ops.toList.drop i=oi::rest:=by rfl)
  (hs:Region.noSelect ops=true:=by kernel_rfl) (hf:Region.free md ops listed i=true:=by kernel_rfl) (hr:(Region.ready md ops listed).contains i=true:=by kernel_rfl)
  (hQ:∀c a w,Q (.panic c) (a.put oi.dst v) w→Q (.panic c) a w:=by exact fun _ _ _ h=>h) (hw:Region.wanted oi (yielded ops a.tmps)=true:=by rfl)
  (hy:∀w,S w→(execOp a.eval oi).run P w=.ok (.value v) w:=by exact fun w hSw=>by go_simp):wpAnyH P md ops Q S (fuel+1) listed a w :=
 wpAnyH_take (at_drop0 hd) hs hf hr hQ (Or.inl ⟨hw,hy⟩) hS h
theorem take_val {i fuel:Nat} {listed:Array Bool} {a:Act} {w:World} (v:Value) {oi:Oper} {rest:List Oper} (hd:ops.toList.drop i=oi::rest)
  (hs:Region.noSelect ops=true) (hf:Region.free md ops listed i=true) (hr:(Region.ready md ops listed).contains i=true)
  (hQ:∀c a w,Q (.panic c) (a.put oi.dst v) w→Q (.panic c) a w) (hw:Region.wanted oi (yielded ops a.tmps)=true) (hy:∀w,S w→(execOp a.eval oi).run P w=.ok (.value v) w) (hS:S w)
  (h:wpAnyH P md ops Q S fuel (listed.setIfInBounds i true) (a.put oi.dst v) w):wpAnyH P md ops Q S (fuel+1) listed a w :=
 wpAnyH_take (at_drop0 hd) hs hf hr hQ (Or.inl ⟨hw,hy⟩) hS h
theorem take_not {i fuel:Nat} {listed:Array Bool} {a:Act} {w:World} {oi:Oper} {rest:List Oper} (hd:ops.toList.drop i=oi::rest)
  (hs:Region.noSelect ops=true) (hf:Region.free md ops listed i=true) (hr:(Region.ready md ops listed).contains i=true)
  (hQ:∀c a w,Q (.panic c) (a.put oi.dst undef) w→Q (.panic c) a w) (hw:Region.wanted oi (yielded ops a.tmps)=false) (hS:S w)
  (h:wpAnyH P md ops Q S fuel (listed.setIfInBounds i true) (a.put oi.dst undef) w):wpAnyH P md ops Q S (fuel+1) listed a w :=
 wpAnyH_take (at_drop0 hd) hs hf hr hQ (Or.inr ⟨hw,rfl⟩) hS h
end
end
section
open Go.RowKit Go.Lib
theorem ix_signK {c:UInt8} (h:isK c=true):Lib.indexByte (⟨#[58,43,45,126,61]⟩:ByteArray).data.toList c=kindN (c.toNat:Int)-1:=by
 rcases kind_sign h with rfl|rfl|rfl|rfl|rfl<;>decide
theorem k_pos {c:UInt8} (h:isK c=true):1≤kindN (c.toNat:Int)∧kindN (c.toNat:Int)≤5:=by
 rcases kind_sign h with rfl|rfl|rfl|rfl|rfl<;>decide
theorem editO_at {l:List UInt8} {i:Nat} (hi:i<l.length) (h1:isK l[i]=true) (h2:∀c∈l.take i,isK c=false) :
  editO l=if kindN (l[i].toNat:Int)=4 then (if l.drop (i+1)=[] then some (4,⟨(l.take i).toArray⟩,⟨#[]⟩) else none)
   else if Lib.hasPrefix (l.drop (i+1)) [61]=true then (match readL ((l.drop (i+1)).drop 1) with
    | none=>none
    | some t=>some (kindN (l[i].toNat:Int),⟨(l.take i).toArray⟩,⟨t.toArray⟩)) else none:=by
 obtain ⟨e1,e2⟩:=k_split hi h2 h1
 unfold editO
 rw [e2]
 simp only
 rw [e1]
 by_cases h4:kindN (l[i].toNat:Int)=4
 ·rw [if_pos h4,if_pos h4]
 ·rw [if_neg h4,if_neg h4]
  cases l.drop (i+1) with
  | nil=>rfl
  | cons d r =>
   simp only [List.drop_succ_cons,List.drop_zero]
   by_cases hd:d=61
   ·subst hd
    rw [if_pos rfl,if_pos (by rfl)]
    cases readL r<;>rfl
   ·rw [if_neg hd,if_neg]
    intro h
    simp [Lib.hasPrefix] at h
    exact hd h.symm
theorem FirstK.uniq {l:List UInt8} {a b:Int} (ha:FirstK l a) (hb:FirstK l b):a=b:=by
 rcases ha with ⟨rfl,h1⟩|⟨i,rfl,hi,h1,h2⟩
 ·rcases hb with ⟨rfl,_⟩|⟨j,rfl,hj,h3,_⟩
  ·rfl
  ·rw [h1 _ (List.getElem_mem hj)] at h3;cases h3
 ·rcases hb with ⟨rfl,h3⟩|⟨j,rfl,hj,h3,h4⟩
  ·rw [h3 _ (List.getElem_mem hi)] at h1;cases h1
  ·rcases Nat.lt_trichotomy i j with h|h|h
   ·rw [h4 _ (List.mem_iff_getElem.2 ⟨i,by rw [List.length_take];omega,by rw [List.getElem_take]⟩)] at h1;cases h1
   ·rw [h]
   ·rw [h2 _ (List.mem_iff_getElem.2 ⟨j,by rw [List.length_take];omega,by rw [List.getElem_take]⟩)] at h3;cases h3
theorem ixanyK_at {s:ByteArray} {k:Int} (h:FirstK s.data.toList k) (w:World) (hs:s.size≤4294967000) :
  Calls Tryz.prog 158 #[.string s,.string ⟨#[58,43,45,126,61]⟩] w fun e w'=>e=.returned (.int .i64 k)∧Below w.heap.size w w' :=
 (ixany_anyH s w hs).mono fun _ _ ⟨⟨k',h1,h2⟩,h3⟩=>⟨by rw [h1,h.uniq h2],h3⟩
def editV (o:Option Ed):Value:=match o with
 | none=>.tuple #[.agg #[.int .i64 0,.string ⟨#[]⟩,.string ⟨#[]⟩],.int .i64 4]
 | some x=>.tuple #[.agg #[.int .i64 x.1,.string x.2.1,.string x.2.2],.int .i64 0]
set_option maxHeartbeats 4000000 in
set_option maxRecDepth 100000 in
theorem read_none (s:ByteArray) (w:World) (hs:s.size≤4294967000) (hk:∀c∈s.data.toList,isK c=false) :
  Calls Tryz.prog 118 #[.string s] w fun e w'=>e=.returned (.tuple #[.agg #[.int .i64 0,.string ⟨#[]⟩,.string ⟨#[]⟩],.int .i64 4])∧Below w.heap.size w w':=by
 obtain ⟨W0,hW0⟩:∃W0,w.alloc (.cells #[.int .i64 0,.string ⟨#[]⟩,.string ⟨#[]⟩] 47)=W0:=⟨_,rfl⟩
 obtain ⟨R,hR⟩:∃R,w.heap.size=R:=⟨_,rfl⟩
 have hb0:Below R w W0:=by rw [←hW0,←hR];exact (Below.refl _ _).alloc (Nat.le_refl _) _
 have hx0:BoxE W0 R (0,⟨#[]⟩,⟨#[]⟩):=by rw [←hW0,←hR];exact boxE_new w (0,⟨#[]⟩,⟨#[]⟩)
 have hRl:R<W0.heap.size:=hx0.lt
 have HB0:=hid hb0
 have HX0:=hid hx0
 rw [hR]
 have HX:=hid (ixanyK_at (Or.inl ⟨rfl,hk⟩) W0 hs)
 clear hb0 hx0 hk
 go_enter Tryz.func118,Tryz.ntmps118
 go_wp2_with fail
 refine HX.out.mono ?_
 rintro e w1 ⟨rfl,hb1⟩
 have hx1:=HX0.out.on hb1
 obtain ⟨k0,k1,k2⟩:=hx1.cells
 obtain ⟨f0,f1,f2⟩:=boxE_free hx1
 simp only at k0 k1 k2
 have HX1:=hid hx1
 have HB1:=hid (show Below R w w1 from HB0.out.trans (hb1.mono (Nat.le_of_lt hRl)))
 clear hx1 hb1
 go_wp2_with fail
 obtain ⟨j0,j1,j2⟩:=(boxE_put HX1.out (0,⟨#[]⟩,⟨#[]⟩)).cells
 simp only at j0 j1 j2
 exact bodyPost_ret (v:=.tuple #[.agg #[.int .i64 0,.string ⟨#[]⟩,.string ⟨#[]⟩],.int .i64 4]) (by simp [results,Tryz.results118,go_sem,j0,j1,j2]) rfl ⟨rfl,belE_put HB1.out (Nat.le_refl _) (0,⟨#[]⟩,⟨#[]⟩)⟩
set_option maxHeartbeats 4000000 in
set_option maxRecDepth 100000 in
theorem read_sign (s:ByteArray) (w:World) (hp:PlainAt w) (hs:s.size≤4294967000) (i:Nat) (hi:i<s.data.toList.length) (h1:isK s.data.toList[i]=true) (h2:∀c∈s.data.toList.take i,isK c=false) :
  Calls Tryz.prog 118 #[.string s] w fun e w'=>e=.returned (editV (editO s.data.toList))∧Below w.heap.size w w':=by
 obtain ⟨W0,hW0⟩:∃W0,w.alloc (.cells #[.int .i64 0,.string ⟨#[]⟩,.string ⟨#[]⟩] 47)=W0:=⟨_,rfl⟩
 obtain ⟨R,hR⟩:∃R,w.heap.size=R:=⟨_,rfl⟩
 have hb0:Below R w W0:=by rw [←hW0,←hR];exact (Below.refl _ _).alloc (Nat.le_refl _) _
 have hx0:BoxE W0 R (0,⟨#[]⟩,⟨#[]⟩):=by rw [←hW0,←hR];exact boxE_new w (0,⟨#[]⟩,⟨#[]⟩)
 have hRl:R<W0.heap.size:=hx0.lt
 have HP:=hid (show PlainAt W0 from hp.on (by rw [hR];exact hb0))
 have HB0:=hid hb0
 have HX0:=hid hx0
 obtain ⟨V,hV⟩:∃V,editV (editO s.data.toList)=V:=⟨_,rfl⟩
 rw [hV]
 have HX:=hid (ixanyK_at (Or.inr ⟨i,rfl,hi,h1,h2⟩) W0 hs)
 rw [editO_at hi h1 h2] at hV
 have his:i<s.size:=by simpa using hi
 obtain ⟨c,hc⟩:∃c,s[i]'his=c:=⟨_,rfl⟩
 have hcl:s.data.toList[i]=c:=hc
 rw [hcl] at h1 hV
 have hix:=ix_signK h1
 obtain ⟨o1,o2⟩:=k_pos h1
 obtain ⟨o,ho⟩:∃o,kindN (c.toNat:Int)=o:=⟨_,rfl⟩
 rw [ho] at hix o1 o2 hV
 have hback:((c.toNat:Int)).toNat.toUInt8=c:=by simp
 have HIX:Hid (∀W,Calls Tryz.prog 159 #[.string ⟨#[58,43,45,126,61]⟩,.int .u8 c.toNat] W fun e w'=>e=.returned (.int .i64 (o-1))∧W=w'):=fun W=>by
  have:=Tryz.strings_IndexByte ⟨#[58,43,45,126,61]⟩ c.toNat W
  rw [hback,hix] at this
  exact this.mono fun e w' h=>⟨h.1,h.2.symm⟩
 have hw1:IntKind.i64.wrap (1+(o-1))=o:=by rw [show 1+(o-1)=o by omega];exact wrap_i64E _ (by omega) (by omega)
 have hiz:(0:Int)≤i:=by omega
 have hiz2:(i:Int)<(s.size:Int):=by omega
 have hiz3:(i:Int)+1≤(s.size:Int):=by omega
 have hiz4:(0:Int)≤(i:Int)+1:=by omega
 have hiz5:(i:Int)≤(s.size:Int):=by omega
 have hit:((i:Int)+1).toNat=i+1:=by omega
 have hnn:¬ ((i:Int)<0):=by omega
 have HE:=hid (ext_take s i)
 have HV:=hid hV
 rw [hR]
 clear hp hb0 hx0 hcl hix ho hi h2 h1 hV
 go_enter Tryz.func118,Tryz.ntmps118
 go_wp2_with fail
 refine HX.out.mono ?_
 rintro e w1 ⟨rfl,hb1⟩
 have HB1:=hid hb1
 clear hb1
 go_wp2_with fail
 refine wp_region_held_drew (S:=fun _=>True) (by kernel_rfl) trivial (fun hHeld=>?_)
 refine tkv 0 (.string s) hHeld ?_
 simp only [Act.put,sz]
 refine tkv 1 (.int .i64 i) hHeld ?_
 simp only [Act.put,sz]
 refine tkv 2 (.int .u8 c.toNat) hHeld ?_
 simp only [Act.put,sz]
 refine tkv 5 (.string s) hHeld ?_
 simp only [Act.put,sz]
 refine tkv 6 (.int .i64 i) hHeld ?_
 simp only [Act.put,sz]
 refine tkv 7 (.string (s.extract 0 i)) hHeld ?_
 simp only [Act.put,sz]
 refine wpAnyH_ready (rs:=[3,9]) (by kernel_rfl) (by simp) ?_
 refine AllReadyH.cons (at_drop0 rfl) (fun K hK=>?_) (AllReadyH.cons (at_drop0 rfl) (fun K hK=>?_) AllReadyH.nil)
 case' refine_1 =>
  rw [if_pos (by rfl)]
  go_simp
  refine (HIX.out _).mono ?_
  rintro e w2 ⟨rfl,rfl⟩
  go_wp2_with fail
  refine hK.out _ _ trivial (fun hHeld=>?_)
  clear hK K
  try simp only [Act.put,sz]
  refine tkv 4 (.int .i64 o) hHeld ?_
  simp only [Act.put,sz]
  refine tkv 8 (.agg #[.int .i64 o,.string (s.extract 0 i),.string ⟨#[]⟩]) hHeld ?_
  simp only [Act.put,sz]
  refine wpAnyH_ready (rs:=[9]) (by kernel_rfl) (by simp) ?_
  refine AllReadyH.cons (at_drop0 rfl) (fun K hK=>?_) AllReadyH.nil
  rw [if_pos (by rfl)]
  go_simp
  refine hK.out _ _ trivial (fun hHeld=>?_)
  clear hK K
  try simp only [Act.put,sz]
  refine wpAnyH_ready (rs:=[10]) (by kernel_rfl) (by simp) ?_
  refine AllReadyH.cons (at_drop0 rfl) (fun K hK=>?_) AllReadyH.nil
  rw [if_pos (by rfl)]
  go_simp
  refine hK.out _ _ trivial (fun hHeld=>?_)
  clear hK K
  try simp only [Act.put,sz]
  refine wpAnyH_done (by kernel_rfl) ?_ _
 case' refine_2 =>
  rw [if_pos (by rfl)]
  go_simp
  refine hK.out _ _ trivial (fun hHeld=>?_)
  clear hK K
  try simp only [Act.put,sz]
  refine wpAnyH_ready (rs:=[3]) (by kernel_rfl) (by simp) ?_
  refine AllReadyH.cons (at_drop0 rfl) (fun K hK=>?_) AllReadyH.nil
  rw [if_pos (by rfl)]
  go_simp
  refine (HIX.out _).mono ?_
  rintro e w2 ⟨rfl,rfl⟩
  go_wp2_with fail
  refine hK.out _ _ trivial (fun hHeld=>?_)
  clear hK K
  try simp only [Act.put,sz]
  refine tkv 4 (.int .i64 o) hHeld ?_
  simp only [Act.put,sz]
  refine tkv 8 (.agg #[.int .i64 o,.string (s.extract 0 i),.string ⟨#[]⟩]) hHeld ?_
  simp only [Act.put,sz]
  refine wpAnyH_ready (rs:=[10]) (by kernel_rfl) (by simp) ?_
  refine AllReadyH.cons (at_drop0 rfl) (fun K hK=>?_) AllReadyH.nil
  rw [if_pos (by rfl)]
  go_simp
  refine hK.out _ _ trivial (fun hHeld=>?_)
  clear hK K
  try simp only [Act.put,sz]
  refine wpAnyH_done (by kernel_rfl) ?_ _
 all_goals
  clear HIX HX
  obtain ⟨E,hE⟩:∃E,w1.heap.size=E:=⟨_,rfl⟩
  have hsz1:=HB1.out.size
  have hRE:R≠E:=by omega
  have hER:E≠R:=by omega
  have HBW:Hid (Below W0.heap.size W0 (w1.alloc (.cells #[.int .i64 o,.string (s.extract 0 i),.string ⟨#[]⟩] 47)).drew):=(HB1.out.alloc hsz1 _).drew
  have HEB:Hid (BoxE (w1.alloc (.cells #[.int .i64 o,.string (s.extract 0 i),.string ⟨#[]⟩] 47)).drew E (o,s.extract 0 i,⟨#[]⟩)):=by rw [←hE];exact boxE_new w1 (o,s.extract 0 i,⟨#[]⟩)
  obtain ⟨W,hW⟩:∃W,(w1.alloc (.cells #[.int .i64 o,.string (s.extract 0 i),.string ⟨#[]⟩] 47)).drew=W:=⟨_,rfl⟩
  rw [hW] at HBW HEB
  rw [hE]
  have hx1:=HX0.out.on HBW.out
  obtain ⟨k0,k1,k2⟩:=hx1.cells
  obtain ⟨f0,f1,f2⟩:=boxE_free hx1
  obtain ⟨y0,y1,y2⟩:=HEB.out.cells
  obtain ⟨z0,z1,z2⟩:=boxE_free HEB.out
  simp only at k0 k1 k2 y0 y1 y2
  have HX1:=hid hx1
  have HRW:Hid (Below R w W):=HB0.out.trans (HBW.out.mono (Nat.le_of_lt hRl))
  clear hx1
  have hcd:(s.extract (i+1) s.size).data.toList=s.data.toList.drop (i+1):=ext_drop s (i+1)
  by_cases h4:o=4
  ·have hkb:(o==4)=true:=by rw [h4];rfl
   have hvv:=HV.out
   rw [if_pos h4] at hvv
   by_cases hL:s.data.toList.drop (i+1)=[]
   ·have hbe:(s.extract (i+1) s.size).toList.isEmpty=true:=by rw [Lib.toList_data,hcd,hL];rfl
    have HO:Hid (V=.tuple #[.agg #[.int .i64 o,.string (s.extract 0 i),.string ⟨#[]⟩],.int .i64 0]):=by
     show _=_
     rw [←hvv,if_pos hL,h4,HE.out]
     rfl
    clear hvv hL hcd h4
    go_wp2_with fail
    obtain ⟨j0,j1,j2⟩:=(boxE_put HX1.out (o,s.extract 0 i,⟨#[]⟩)).cells
    simp only at j0 j1 j2
    exact bodyPost_ret (v:=.tuple #[.agg #[.int .i64 o,.string (s.extract 0 i),.string ⟨#[]⟩],.int .i64 0]) (by simp [results,Tryz.results118,go_sem,j0,j1,j2]) rfl ⟨by rw [HO.out],belE_put HRW.out (Nat.le_refl _) (o,s.extract 0 i,⟨#[]⟩)⟩
   ·have hbe:(s.extract (i+1) s.size).toList.isEmpty=false:=by
     rw [Lib.toList_data,hcd]
     cases hq:s.data.toList.drop (i+1) with
     | nil=>exact absurd hq hL
     | cons _ _=>rfl
    have HO:Hid (V=.tuple #[.agg #[.int .i64 0,.string ⟨#[]⟩,.string ⟨#[]⟩],.int .i64 4]):=by
     show _=_
     rw [←hvv,if_neg hL]
     rfl
    clear hvv hL hcd h4
    go_wp2_with fail
    obtain ⟨j0,j1,j2⟩:=(boxE_put HX1.out (0,⟨#[]⟩,⟨#[]⟩)).cells
    simp only at j0 j1 j2
    exact bodyPost_ret (v:=.tuple #[.agg #[.int .i64 0,.string ⟨#[]⟩,.string ⟨#[]⟩],.int .i64 4]) (by simp [results,Tryz.results118,go_sem,j0,j1,j2]) rfl ⟨by rw [HO.out],belE_put HRW.out (Nat.le_refl _) (0,⟨#[]⟩,⟨#[]⟩)⟩
  ·have hkb:(o==4)=false:=beq_eq_false_iff_ne.2 h4
   have hvv:=HV.out
   rw [if_neg h4] at hvv
   have hcp:=Tryz.strings_CutPrefix (s.extract (i+1) s.size) ⟨#[61]⟩ W
   rw [hcd] at hcp
   obtain ⟨wr,hwr⟩:∃wr:ByteArray,⟨(Lib.trimPrefix (s.data.toList.drop (i+1)) [61]).toArray⟩=wr:=⟨_,rfl⟩
   have hwrl:wr.data.toList=Lib.trimPrefix (s.data.toList.drop (i+1)) [61]:=by rw [←hwr]
   have hwrs:wr.size≤s.size:=by
    have e1:wr.size=wr.data.toList.length:=by simp
    rw [e1,hwrl]
    have e2:(Lib.trimPrefix (s.data.toList.drop (i+1)) [61]).length≤(s.data.toList.drop (i+1)).length:=by
     unfold Lib.trimPrefix
     split
     ·rw [List.length_drop];exact Nat.sub_le _ _
     ·exact Nat.le_refl _
    have e3:(s.data.toList.drop (i+1)).length≤s.data.toList.length:=by simp
    have e4:s.data.toList.length=s.size:=by simp
    omega
   have hrd:=read_any wr W (HP.out.on HBW.out) (by omega)
   have HKE:Hid (∀W2,Below W.heap.size W W2→(BoxE W2 E (o,s.extract 0 i,⟨#[]⟩)∧BoxE W2 R (0,⟨#[]⟩,⟨#[]⟩))∧Below R w W2):=fun W2 h=>⟨⟨HEB.out.on h,HX1.out.on h⟩,HRW.out.trans (h.mono (by have:=HBW.out.size;omega))⟩
   cases hpre:Lib.hasPrefix (s.data.toList.drop (i+1)) [61] with
   | false =>
    have HO:Hid (V=.tuple #[.agg #[.int .i64 0,.string ⟨#[]⟩,.string ⟨#[]⟩],.int .i64 4]):=by
     show _=_
     rw [←hvv,if_neg (by rw [hpre];decide)]
     rfl
    have HCP:Hid (Calls Tryz.prog 15 #[.string (s.extract (i+1) s.size),.string ⟨#[61]⟩] W fun e w'=>e=.returned (.tuple #[.string wr,.bool false])∧W=w'):=hcp.mono fun e w' h=>⟨by rw [h.1,←hwr,←hpre],h.2.symm⟩
    have HRD:Hid (Calls Tryz.prog 153 #[.string wr] W fun e w'=>∃t k,e=.returned (.tuple #[.string t,.int .i64 k])∧Below W.heap.size W w'):=hrd.mono fun e w' h=>by
     cases hr:readL wr.data.toList with
     | none=>rw [hr] at h;exact ⟨_,_,h.1,h.2⟩
     | some t=>rw [hr] at h;exact ⟨_,_,h.1,h.2⟩
    clear hvv hcd h4 hcp hwr hwrl hwrs hrd hpre k0 k1 k2 f0 f1 f2
    go_wp2_with fail
    refine HCP.out.mono ?_
    rintro e w3 ⟨rfl,rfl⟩
    go_wp2_with fail
    refine HRD.out.mono ?_
    rintro e w4 ⟨t,k,rfl,hb4⟩
    obtain ⟨⟨hbE,hbR⟩,hbw⟩:=HKE.out _ hb4
    obtain ⟨k0,k1,k2⟩:=hbR.cells
    obtain ⟨f0,f1,f2⟩:=boxE_free hbR
    simp only at k0 k1 k2
    have HXR:=hid hbR
    have HBR:=hid hbw
    clear hb4 hbE hbR hbw
    go_wp2_with fail
    obtain ⟨j0,j1,j2⟩:=(boxE_put HXR.out (0,⟨#[]⟩,⟨#[]⟩)).cells
    simp only at j0 j1 j2
    exact bodyPost_ret (v:=.tuple #[.agg #[.int .i64 0,.string ⟨#[]⟩,.string ⟨#[]⟩],.int .i64 4]) (by simp [results,Tryz.results118,go_sem,j0,j1,j2]) rfl ⟨by rw [HO.out],belE_put HBR.out (Nat.le_refl _) (0,⟨#[]⟩,⟨#[]⟩)⟩
   | true =>
    have HCP:Hid (Calls Tryz.prog 15 #[.string (s.extract (i+1) s.size),.string ⟨#[61]⟩] W fun e w'=>e=.returned (.tuple #[.string wr,.bool true])∧W=w'):=hcp.mono fun e w' h=>⟨by rw [h.1,←hwr,←hpre],h.2.symm⟩
    have hdr:wr.data.toList=(s.data.toList.drop (i+1)).drop 1:=by
     rw [hwrl]
     unfold Lib.trimPrefix
     rw [if_pos hpre]
     rfl
    rw [if_pos hpre,←hdr] at hvv
    cases hr:readL wr.data.toList with
    | none =>
     rw [hr] at hrd hvv
     have HO:Hid (V=.tuple #[.agg #[.int .i64 0,.string ⟨#[]⟩,.string ⟨#[]⟩],.int .i64 4]):=hvv.symm
     have HRD:Hid (Calls Tryz.prog 153 #[.string wr] W fun e w'=>e=.returned (.tuple #[.string ⟨#[]⟩,.int .i64 4])∧Below W.heap.size W w'):=hrd
     clear hvv hcd h4 hcp hwr hwrl hwrs hrd hpre k0 k1 k2 f0 f1 f2 hdr hr
     go_wp2_with fail
     refine HCP.out.mono ?_
     rintro e w3 ⟨rfl,rfl⟩
     go_wp2_with fail
     refine HRD.out.mono ?_
     rintro e w4 ⟨rfl,hb4⟩
     obtain ⟨⟨hbE,hbR⟩,hbw⟩:=HKE.out _ hb4
     obtain ⟨k0,k1,k2⟩:=hbR.cells
     obtain ⟨f0,f1,f2⟩:=boxE_free hbR
     simp only at k0 k1 k2
     have HXR:=hid hbR
     have HBR:=hid hbw
     clear hb4 hbE hbR hbw
     go_wp2_with fail
     obtain ⟨j0,j1,j2⟩:=(boxE_put HXR.out (0,⟨#[]⟩,⟨#[]⟩)).cells
     simp only at j0 j1 j2
     exact bodyPost_ret (v:=.tuple #[.agg #[.int .i64 0,.string ⟨#[]⟩,.string ⟨#[]⟩],.int .i64 4]) (by simp [results,Tryz.results118,go_sem,j0,j1,j2]) rfl ⟨by rw [HO.out],belE_put HBR.out (Nat.le_refl _) (0,⟨#[]⟩,⟨#[]⟩)⟩
    | some t =>
     rw [hr] at hrd hvv
     have HO:Hid (V=.tuple #[.agg #[.int .i64 o,.string (s.extract 0 i),.string ⟨t.toArray⟩],.int .i64 0]):=by
      show _=_
      rw [←hvv,HE.out]
      rfl
     have HRD:Hid (Calls Tryz.prog 153 #[.string wr] W fun e w'=>e=.returned (.tuple #[.string ⟨t.toArray⟩,.int .i64 0])∧Below W.heap.size W w'):=hrd
     clear hvv hcd h4 hcp hwr hwrl hwrs hrd hpre k0 k1 k2 f0 f1 f2 hdr hr
     go_wp2_with fail
     refine HCP.out.mono ?_
     rintro e w3 ⟨rfl,rfl⟩
     go_wp2_with fail
     refine HRD.out.mono ?_
     rintro e w4 ⟨rfl,hb4⟩
     obtain ⟨⟨hbE,hbR⟩,hbw⟩:=HKE.out _ hb4
     have hbE2:=boxE_text hbE ⟨t.toArray⟩
     have hbR2:BoxE (w4.setCell ⟨E,2,none⟩ (.string ⟨t.toArray⟩)) R (0,⟨#[]⟩,⟨#[]⟩):=(Below.heap_setCell w4 _ _ _ hRE).trans hbR
     obtain ⟨y0,y1,y2⟩:=hbE.cells
     obtain ⟨z0,z1,z2⟩:=boxE_free hbE
     obtain ⟨x0,x1,x2⟩:=hbE2.cells
     obtain ⟨k0,k1,k2⟩:=hbR2.cells
     obtain ⟨f0,f1,f2⟩:=boxE_free hbR2
     simp only at k0 k1 k2 y0 y1 y2 x0 x1 x2
     have HXR:=hid hbR2
     have HBR:Hid (Below R w (w4.setCell ⟨E,2,none⟩ (.string ⟨t.toArray⟩))):=hbw.setCell (p:=⟨E,2,none⟩) (by show R≤E;omega) _
     clear hb4 hbE hbE2 hbR hbR2 hbw
     obtain ⟨W5,hW5⟩:∃W5,w4.setCell ⟨E,2,none⟩ (.string ⟨t.toArray⟩)=W5:=⟨_,rfl⟩
     rw [hW5] at HXR HBR k0 k1 k2 f0 f1 f2 x0 x1 x2
     go_wp2_with fail
     obtain ⟨j0,j1,j2⟩:=(boxE_put HXR.out (o,s.extract 0 i,⟨t.toArray⟩)).cells
     simp only at j0 j1 j2
     exact bodyPost_ret (v:=.tuple #[.agg #[.int .i64 o,.string (s.extract 0 i),.string ⟨t.toArray⟩],.int .i64 0]) (by simp [results,Tryz.results118,go_sem,j0,j1,j2]) rfl ⟨by rw [HO.out],belE_put HBR.out (Nat.le_refl _) (o,s.extract 0 i,⟨t.toArray⟩)⟩
theorem read_edit (s:ByteArray) (w:World) (hp:PlainAt w) (hs:s.size≤4294967000) :
  Calls Tryz.prog 118 #[.string s] w fun e w'=>e=.returned (editV (editO s.data.toList))∧Below w.heap.size w w':=by
 rcases indexAny_firstH s.data.toList with ⟨_,h⟩|⟨i,_,hi,h1,h2⟩
 ·have:=read_none s w hs h
  rw [k_none h]
  exact this
 ·exact read_sign s w hp hs i hi h1 h2
end
section
open Go.RowKit
set_option maxHeartbeats 4000000 in
set_option maxRecDepth 100000 in
theorem rkind_any (c:Int) (w:World):Calls Tryz.prog 124 #[.int .u8 c] w fun e w'=>e=.returned (.int .i64 (kindN c))∧w=w':=by
 have S1:Hid (∀W,Calls Tryz.prog 96 #[.int .i64 1] W fun e w'=>e=.returned (.string ⟨#[58,61]⟩)∧W=w'):=fun W=>(rsign_any 1 W).mono fun e w' h=>⟨h.1,h.2.symm⟩
 have S2:Hid (∀W,Calls Tryz.prog 96 #[.int .i64 2] W fun e w'=>e=.returned (.string ⟨#[43,61]⟩)∧W=w'):=fun W=>(rsign_any 2 W).mono fun e w' h=>⟨h.1,h.2.symm⟩
 have S3:Hid (∀W,Calls Tryz.prog 96 #[.int .i64 3] W fun e w'=>e=.returned (.string ⟨#[45,61]⟩)∧W=w'):=fun W=>(rsign_any 3 W).mono fun e w' h=>⟨h.1,h.2.symm⟩
 have S4:Hid (∀W,Calls Tryz.prog 96 #[.int .i64 4] W fun e w'=>e=.returned (.string ⟨#[126]⟩)∧W=w'):=fun W=>(rsign_any 4 W).mono fun e w' h=>⟨h.1,h.2.symm⟩
 have S5:Hid (∀W,Calls Tryz.prog 96 #[.int .i64 5] W fun e w'=>e=.returned (.string ⟨#[61,61]⟩)∧W=w'):=fun W=>(rsign_any 5 W).mono fun e w' h=>⟨h.1,h.2.symm⟩
 obtain ⟨r,hr⟩:∃r,kindN c=r:=⟨_,rfl⟩
 rw [hr]
 have HR:=hid hr
 clear hr
 go_enter Tryz.func124,Tryz.ntmps124
 go_wp2_with fail
 go_loopg [3] 6 (fun g vi wr=>∃i:Nat,vi=.int .i64 i∧1≤i∧i≤6∧6-i≤g∧w=wr∧Hid ((1<i→c≠58)∧(2<i→c≠43)∧(3<i→c≠45)∧(4<i→c≠126)∧(5<i→c≠61)))
 case atStart=>exact ⟨1,rfl,by omega,by omega,by omega,rfl,⟨fun h=>by omega,fun h=>by omega,fun h=>by omega,fun h=>by omega,fun h=>by omega⟩⟩
 case round =>
 obtain ⟨i,rfl,hi1,hi6,hgk,rfl,HN⟩:=hrel
 have hcs:i=1∨i=2∨i=3∨i=4∨i=5∨i=6:=by omega
 rcases hcs with rfl|rfl|rfl|rfl|rfl|rfl
 ·by_cases hc:c=58
  ·have hb:((((⟨#[58,61]⟩:ByteArray)[0]'(by decide)).toNat:Int)==c)=true:=by rw [hc];rfl
   have H0:Hid (r=1):=by show _=_;rw [←HR.out,hc];rfl
   clear hc
   go_wp2_with (first|(go_at_call 96;refine (S1.out _).mono ?_;rintro e w1 ⟨rfl,rfl⟩))
   go_ret
   exact ⟨ret_int H0.out.symm,rfl⟩
  ·have hb:((((⟨#[58,61]⟩:ByteArray)[0]'(by decide)).toNat:Int)==c)=false:=beq_eq_false_iff_ne.2 fun e=>hc e.symm
   have HC:=hid hc
   clear hc
   go_wp2_with (first|(go_at_call 96;refine (S1.out _).mono ?_;rintro e w1 ⟨rfl,rfl⟩))
   go_roundg 4
   case measure=>omega
   case rel=>exact ⟨2,rfl,by omega,by omega,by omega,rfl,⟨fun _=>HC.out,fun h=>by omega,fun h=>by omega,fun h=>by omega,fun h=>by omega⟩⟩
 ·by_cases hc:c=43
  ·have hb:((((⟨#[43,61]⟩:ByteArray)[0]'(by decide)).toNat:Int)==c)=true:=by rw [hc];rfl
   have H0:Hid (r=2):=by show _=_;rw [←HR.out,hc];rfl
   clear hc
   go_wp2_with (first|(go_at_call 96;refine (S2.out _).mono ?_;rintro e w1 ⟨rfl,rfl⟩))
   go_ret
   exact ⟨ret_int H0.out.symm,rfl⟩
  ·have hb:((((⟨#[43,61]⟩:ByteArray)[0]'(by decide)).toNat:Int)==c)=false:=beq_eq_false_iff_ne.2 fun e=>hc e.symm
   have HC:=hid hc
   clear hc
   go_wp2_with (first|(go_at_call 96;refine (S2.out _).mono ?_;rintro e w1 ⟨rfl,rfl⟩))
   go_roundg 3
   case measure=>omega
   case rel=>exact ⟨3,rfl,by omega,by omega,by omega,rfl,⟨fun _=>HN.out.1 (by omega),fun _=>HC.out,fun h=>by omega,fun h=>by omega,fun h=>by omega⟩⟩
 ·by_cases hc:c=45
  ·have hb:((((⟨#[45,61]⟩:ByteArray)[0]'(by decide)).toNat:Int)==c)=true:=by rw [hc];rfl
   have H0:Hid (r=3):=by show _=_;rw [←HR.out,hc];rfl
   clear hc
   go_wp2_with (first|(go_at_call 96;refine (S3.out _).mono ?_;rintro e w1 ⟨rfl,rfl⟩))
   go_ret
   exact ⟨ret_int H0.out.symm,rfl⟩
  ·have hb:((((⟨#[45,61]⟩:ByteArray)[0]'(by decide)).toNat:Int)==c)=false:=beq_eq_false_iff_ne.2 fun e=>hc e.symm
   have HC:=hid hc
   clear hc
   go_wp2_with (first|(go_at_call 96;refine (S3.out _).mono ?_;rintro e w1 ⟨rfl,rfl⟩))
   go_roundg 2
   case measure=>omega
   case rel=>exact ⟨4,rfl,by omega,by omega,by omega,rfl,⟨fun _=>HN.out.1 (by omega),fun _=>HN.out.2.1 (by omega),fun _=>HC.out,fun h=>by omega,fun h=>by omega⟩⟩
 ·by_cases hc:c=126
  ·have hb:((((⟨#[126]⟩:ByteArray)[0]'(by decide)).toNat:Int)==c)=true:=by rw [hc];rfl
   have H0:Hid (r=4):=by show _=_;rw [←HR.out,hc];rfl
   clear hc
   go_wp2_with (first|(go_at_call 96;refine (S4.out _).mono ?_;rintro e w1 ⟨rfl,rfl⟩))
   go_ret
   exact ⟨ret_int H0.out.symm,rfl⟩
  ·have hb:((((⟨#[126]⟩:ByteArray)[0]'(by decide)).toNat:Int)==c)=false:=beq_eq_false_iff_ne.2 fun e=>hc e.symm
   have HC:=hid hc
   clear hc
   go_wp2_with (first|(go_at_call 96;refine (S4.out _).mono ?_;rintro e w1 ⟨rfl,rfl⟩))
   go_roundg 1
   case measure=>omega
   case rel=>exact ⟨5,rfl,by omega,by omega,by omega,rfl,⟨fun _=>HN.out.1 (by omega),fun _=>HN.out.2.1 (by omega),fun _=>HN.out.2.2.1 (by omega),fun _=>HC.out,fun h=>by omega⟩⟩
 ·by_cases hc:c=61
  ·have hb:((((⟨#[61,61]⟩:ByteArray)[0]'(by decide)).toNat:Int)==c)=true:=by rw [hc];rfl
   have H0:Hid (r=5):=by show _=_;rw [←HR.out,hc];rfl
   clear hc
   go_wp2_with (first|(go_at_call 96;refine (S5.out _).mono ?_;rintro e w1 ⟨rfl,rfl⟩))
   go_ret
   exact ⟨ret_int H0.out.symm,rfl⟩
  ·have hb:((((⟨#[61,61]⟩:ByteArray)[0]'(by decide)).toNat:Int)==c)=false:=beq_eq_false_iff_ne.2 fun e=>hc e.symm
   have HC:=hid hc
   clear hc
   go_wp2_with (first|(go_at_call 96;refine (S5.out _).mono ?_;rintro e w1 ⟨rfl,rfl⟩))
   go_roundg 0
   case measure=>omega
   case rel=>exact ⟨6,rfl,by omega,by omega,by omega,rfl,⟨fun _=>HN.out.1 (by omega),fun _=>HN.out.2.1 (by omega),fun _=>HN.out.2.2.1 (by omega),fun _=>HN.out.2.2.2.1 (by omega),fun _=>HC.out⟩⟩
 ·have H0:Hid (r=0):=by
   show _=_
   obtain ⟨n1,n2,n3,n4,n5⟩:=HN.out
   rw [←HR.out]
   unfold kindN
   rw [if_neg (n1 (by omega)),if_neg (n2 (by omega)),if_neg (n3 (by omega)),if_neg (n4 (by omega)),if_neg (n5 (by omega))]
  clear HN
  go_wp2_with fail
  go_ret
  exact ⟨ret_int H0.out.symm,rfl⟩
end
end Go.Proofs.YtjeogllmpjihaaaGreatDoor
