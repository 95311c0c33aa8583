/-
  Texts of this claim, one behind the other: Vm1 Vm2 Wr0 Wr1 Wr2 Psn Wr4 Krf Krk Rmay Wr3 Wr5 Wfo Wgp Gmp Ws1 Ws2 Yt1 Yr0 Yp0 Ys1 Yl1 Yl2 Yl3 Flt Two Yl4 Ys2 Yc1 Yc2 Mtw Pu2 Pbx Mr6 Yc3 Yr1 Mq0 Yq0 Yq1 Pc1 Pc2 Pc3 Yq2 Yq3 Mq1.
-/
import Derived.Test.YtmhlcnmfbolgdaaGreatPc
import Derived.DataShut
namespace Go.Proofs.YtmhlcnmfbolgdaaGreat
section
theorem at_last {l:List Vr} (h:OkV l) {s:Int} (hs:(lastV l).stamp≤s):(atV l s).getD zeroV=lastV l:=by
 by_cases hn:l=[]
 ·subst hn;rfl
 ·have h0:0<l.length:=List.length_pos_iff.2 hn
  have hc:cutV l s=l.length:=by
   refine cutV_uniq h.rise (Nat.le_refl _) (fun i hi _=>?_) (fun i hi hle=>by omega)
   rw [lastV_get h0] at hs
   rcases Nat.lt_or_ge i (l.length-1) with q|q
   ·have:=rise_lt h.rise q (by omega);omega
   ·have e:i=l.length-1:=by omega
    subst e;exact hs
  unfold atV
  rw [hc,if_neg (by omega),List.getElem?_eq_getElem (by omega),lastV_get h0]
  rfl
structure PutsIn (D:List RowD) (n:Int) (ch:List Ch):Prop where
 nd:(ch.map Ch.key).Nodup
 code:∀c∈ch,codeD D c.key n c.il c.is=0
theorem putD_of {D:List RowD} {k:Ky} {n tick:Int} {live:Bool} {val:List Fld} (hc:codeD D k n live val=0) (k':Ky):ofD (putD D k n tick live val) k'=if k'=k then putV (ofD D k) n tick live val else ofD D k':=by
 unfold putD
 rw [if_pos hc,setD_of]
theorem codeD_of {D E:List RowD} {k:Ky} (h:ofD D k=ofD E k) (n:Int) (live:Bool) (val:List Fld):codeD D k n live val=codeD E k n live val:=by
 unfold codeD
 rw [h]
theorem PutsIn.tail {D:List RowD} {n tick:Int} {c:Ch} {ch:List Ch} (h:PutsIn D n (c::ch)):PutsIn (putD D c.key n tick c.il c.is) n ch:=by
 have hnd:=List.nodup_cons.1 h.nd
 refine ⟨hnd.2,fun d hd=>?_⟩
 rw [codeD_of (E:=D)]
 ·exact h.code d (List.mem_cons_of_mem _ hd)
 ·rw [putD_of (h.code c List.mem_cons_self),if_neg]
  intro e
  exact hnd.1 (List.mem_map.2 ⟨d,hd,e⟩)
theorem putAll_of {n tick:Int}:∀{ch:List Ch} {D:List RowD},PutsIn D n ch→∀k,ofD (putAll D ch n tick) k=match ch.find? (fun c=>decide (c.key=k)) with|some c=>putV (ofD D k) n tick c.il c.is|none=>ofD D k
 | [],_,_,_=>rfl
 | c::ch,D,h,k=>by
  have hnd:=List.nodup_cons.1 h.nd
  have ih:=putAll_of (n:=n) (tick:=tick) (h.tail (tick:=tick)) k
  have e:putAll D (c::ch) n tick=putAll (putD D c.key n tick c.il c.is) ch n tick:=rfl
  rw [e,ih,putD_of (h.code c List.mem_cons_self)]
  by_cases hk:c.key=k
  ·have hnone:ch.find? (fun c=>decide (c.key=k))=none:=List.find?_eq_none.2 fun d hd hq=>by
    have:=of_decide_eq_true hq
    exact hnd.1 (List.mem_map.2 ⟨d,hd,this.trans hk.symm⟩)
   rw [hnone,if_pos hk.symm,List.find?_cons_of_pos (by simpa using hk),hk]
  ·rw [if_neg (fun e=>hk e.symm),List.find?_cons_of_neg (by simpa using hk)]
theorem putAll_ok {n tick:Int} (h0:0≤n):∀{ch:List Ch} {D:List RowD},OkD D→PutsIn D n ch→OkD (putAll D ch n tick)
 | [],_,h,_=>h
 | c::ch,D,h,hp=>by
  refine putAll_ok (ch:=ch) h0 ?_ (hp.tail (tick:=tick))
  have hc:=hp.code c List.mem_cons_self
  show OkD (putD D c.key n tick c.il c.is)
  unfold putD
  rw [if_pos hc]
  refine okD_set h c.key (ok_put (ofD_ok h c.key) h0 (old:=8) (field:=3) (none:=6) (may:=mayB c.is) (by decide) (by decide) (by decide) ?_) (putV_ne _ _ _ _ _)
  unfold codeD at hc
  split at hc
  ·exact hc
  ·cases hc
theorem putAll_count {n tick:Int} (h0:0≤n):∀{ch:List Ch} {D:List RowD},OkD D→PutsIn D n ch→countD (putAll D ch n tick)=countD D+ch.length
 | [],_,_,_=>rfl
 | c::ch,D,h,hp=>by
  have hc:=hp.code c List.mem_cons_self
  have hok:OkD (putD D c.key n tick c.il c.is):=putAll_ok h0 (ch:=[c]) h ⟨by simp,fun d hd=>by rw [List.mem_singleton.1 hd];exact hc⟩
  have ih:=putAll_count h0 (ch:=ch) (tick:=tick) hok (hp.tail (tick:=tick))
  have e:putAll D (c::ch) n tick=putAll (putD D c.key n tick c.il c.is) ch n tick:=rfl
  have h1:=setD_count c.key (putV (ofD D c.key) n tick c.il c.is) h
  rw [putV_len] at h1
  have h2:countD (putD D c.key n tick c.il c.is)=countD D+1:=by unfold putD;rw [if_pos hc];omega
  rw [e,ih,h2,List.length_cons]
  omega
theorem putAll_pre {n tick s:Int} (hs:s<n):∀(ch:List Ch) (D E:List RowD),PreD s D E→PreD s (putAll D ch n tick) E
 | [],_,_,h=>h
 | c::ch,_,_,h=>putAll_pre hs ch _ _ (preD_put h c.key hs tick c.il c.is)
theorem putAll_at {n tick s:Int} {D:List RowD} {ch:List Ch} (h0:0≤n) (h:OkD D) (hp:PutsIn D n ch) (hs:s<n) {t:Int} (ht:t≤s) (k:Ky):atV (ofD (putAll D ch n tick) k) t=atV (ofD D k) t :=
 pre_at (ofD_ok (putAll_ok h0 h hp) k).rise (putAll_pre hs ch D D (preD_refl s D) k).1 ht
structure OkX (D:List RowD) (fl last:Int) (x:Tx):Prop where
 lo:0≤x.snap
 hi:x.snap≤last
 fl:x.ended=false→fl≤x.snap
 wr:OkW x.wr
 dead:x.ended=false→∀k,getW x.wr k=some none→((oldS D x.snap k).getD zeroV).live=true
structure OkS (S:Sv):Prop where
 dir:OkD S.D
 low:∀k,∀v∈ofD S.D k,v.stamp≤S.last
 key:∀k,ofD S.D k≠[]→keyB k.1 k.2=true
 may:∀k,∀v∈ofD S.D k,mayB v.val=true
 fl0:0≤S.floor
 fl:S.floor≤S.last
 top:S.last≤topS
 tick:0≤S.tick∧S.tick≤1099511627776
 tk:OkT S.tk
 tkl:∀s,S.tk.last=some s→s≤S.last
 txs:∀x∈S.txs,OkX S.D S.floor S.last x
 cnt:(countD S.D:Int)≤S.vers
theorem okS_new {vers most first:Int} (hv:0≤vers) (h0:0≤first) (h1:first≤topS):OkS (newS vers most first) :=
 ⟨okD_nil,(fun k v hv=>by cases hv),(fun k hk=>absurd rfl hk),(fun k v hv=>by cases hv),Int.le_refl _,h0,h1,⟨Int.le_refl 0,show (0:Int)≤1099511627776 by decide⟩,ok_newT most,(fun s hs=>by cases hs),(fun x hx=>by cases hx),hv⟩
theorem okS_begin {S:Sv} (h:OkS S):OkS (beginS S):=by
 refine ⟨h.dir,h.low,h.key,h.may,h.fl0,h.fl,h.top,h.tick,h.tk,h.tkl,fun x hx=>?_,h.cnt⟩
 rcases List.mem_append.1 hx with hx|hx
 ·exact h.txs x hx
 ·rw [List.mem_singleton.1 hx]
  have h0:=h.fl0
  have h1:=h.fl
  exact ⟨by show 0≤S.last;omega,Int.le_refl _,fun _=>h1,⟨List.Pairwise.nil,(fun y hy=>by cases hy),(fun y hy=>by cases hy)⟩,fun _ k hk=>by cases hk⟩
theorem okS_set {S:Sv} (h:OkS S) (i:Nat) {x:Tx} (hx:OkX S.D S.floor S.last x):OkS (setS S i x):=by
 refine ⟨h.dir,h.low,h.key,h.may,h.fl0,h.fl,h.top,h.tick,h.tk,h.tkl,fun y hy=>?_,h.cnt⟩
 rcases List.mem_or_eq_of_mem_set hy with hy|rfl
 ·exact h.txs y hy
 ·exact hx
theorem okX_end {D:List RowD} {fl last:Int} {x:Tx} (h:OkX D fl last x):OkX D fl last { x with ended:=true }:=⟨h.lo,h.hi,fun e=>(by cases e),h.wr,fun e=>(by cases e)⟩
theorem okX_mark {D:List RowD} {fl last:Int} {x:Tx} (h:OkX D fl last x) (m:Mk):OkX D fl last { x with marks:=m }:=⟨h.lo,h.hi,h.fl,h.wr,h.dead⟩
theorem open_mem {S:Sv} {s:Int}:some s∈openS S↔∃x∈S.txs,x.ended=false∧x.snap=s:=by
 unfold openS
 rw [List.mem_map]
 constructor
 ·rintro ⟨x,hx,e⟩
  cases hq:x.ended with
  | true=>rw [hq] at e;cases e
  | false=>rw [hq] at e;injection e with e;exact ⟨x,hx,hq,e⟩
 ·rintro ⟨x,hx,h1,rfl⟩
  exact ⟨x,hx,by rw [h1];rfl⟩
theorem okQ_openS {S:Sv} (h:OkS S):OkQ (openS S) S.floor:=by
 have h1:=h.fl
 have h2:=h.top
 unfold topS at h2
 refine ⟨⟨h.fl0,by omega⟩,fun s hs=>?_⟩
 obtain ⟨x,hx,he,rfl⟩:=open_mem.1 hs
 have:=h.txs x hx
 exact ⟨this.fl he,by have:=this.hi;omega⟩
theorem leastS_ge {S:Sv} (h:OkS S):S.floor≤leastS S:=least_ok (okQ_openS h) h.fl
theorem leastS_le (S:Sv):leastS S≤S.last:=least_le _ _
theorem leastS_open {S:Sv} {x:Tx} (hx:x∈S.txs) (he:x.ended=false):leastS S≤x.snap:=least_open (open_mem.2 ⟨x,hx,he,rfl⟩) _
theorem prune_mem {l:List Vr} {f:Int} {v:Vr} (h:v∈pruneV l f):v∈l:=List.mem_of_mem_drop h
theorem okS_vac {S:Sv} (h:OkS S):OkS (vacS S):=by
 have h1:=leastS_ge h
 have h2:=leastS_le S
 have h3:=h.fl0
 refine ⟨okD_prune h.dir _,fun k v hv=>?_,fun k hk=>?_,fun k v hv=>?_,by show 0≤leastS S;omega,h2,h.top,h.tick,h.tk,h.tkl,fun x hx=>?_,?_⟩
 ·have hv':v∈ofD (pruneD S.D (leastS S)) k:=hv
  rw [pruneD_of] at hv'
  exact h.low k v (prune_mem hv')
 ·have hk':ofD (pruneD S.D (leastS S)) k≠[]:=hk
  rw [pruneD_of] at hk'
  exact h.key k fun e=>hk' (by rw [e];rfl)
 ·have hv':v∈ofD (pruneD S.D (leastS S)) k:=hv
  rw [pruneD_of] at hv'
  exact h.may k v (prune_mem hv')
 ·have hx0:=h.txs x hx
  refine ⟨hx0.lo,hx0.hi,fun he=>leastS_open hx he,hx0.wr,fun he k hk=>?_⟩
  have:=hx0.dead he k hk
  show ((atV (ofD (pruneD S.D (leastS S)) k) x.snap).getD zeroV).live=true
  rw [pruneD_of,prune_at (ofD_ok h.dir k).rise (leastS_open (S:=S) hx he)]
  exact this
 ·have hc:=pruneD_count S.D (leastS S)
  have:=h.cnt
  show (countD (pruneD S.D (leastS S)):Int)≤S.vers
  omega
end
section
section
variable {D:List RowD} {fl last:Int} {x:Tx}
theorem okX_put (h:OkX D fl last x) (k:Ky) (v:List Fld):OkX D fl last (writeS x k v).2:=by
 unfold writeS
 split
 ·exact h
 ·refine ⟨h.lo,h.hi,h.fl,okW_put h.wr k v,fun he k' hk=>?_⟩
  have hk':getW (putW x.wr k v) k'=some none:=hk
  rw [getW_put] at hk'
  split at hk'
  ·cases hk'
  ·exact h.dead he k' hk'
end
theorem changes_keys {D:List RowD} {x:Tx} (he:x.ended=false):(changesS D x).map Ch.key=keysW x.wr:=by
 unfold changesS keysW
 rw [if_neg (by rw [he];simp),List.map_map]
 rfl
theorem rise_nodupW {L:List RowW} (h:L.Pairwise fun x y=>ltKy x.1 y.1=true):(keysW L).Nodup:=by
 unfold keysW
 exact List.pairwise_map.2 (h.imp fun {a b} hab e=>by
  have e':a.1=b.1:=e
  rw [e',totK.irr] at hab
  cases hab)
theorem puts_in {S:Sv} (h:OkS S) {x:Tx} (hx:OkX S.D S.floor S.last x) (he:x.ended=false) (hl:(changesS S.D x).any (lateS S.D x.snap)=false):PutsIn S.D (S.last+1) (changesS S.D x):=by
 refine ⟨by rw [changes_keys he];exact rise_nodupW hx.wr.rise,fun c hc=>?_⟩
 have hnl:lateS S.D x.snap c=false:=by
  rw [List.any_eq_false] at hl
  simpa using hl c hc
 have hlt:(lastV (ofD S.D c.key)).stamp≤x.snap:=by
  have:=of_decide_eq_false hnl
  omega
 unfold changesS at hc
 rw [if_neg (by rw [he];simp)] at hc
 obtain ⟨y,hy,rfl⟩:=List.mem_map.1 hc
 have hk:=hx.wr.key y hy
 have h0:=h.fl0
 have h1:=h.fl
 have h2:=hx.hi
 unfold codeD
 rw [if_pos (by exact hk)]
 show putCode 8 3 6 (mayB (valW (some y.2))) (ofD S.D y.1) (S.last+1) (liveW (some y.2))=0
 unfold putCode
 have hlt':(lastV (ofD S.D y.1)).stamp≤x.snap:=hlt
 rw [if_neg (by omega)]
 cases hw:y.2 with
 | some v =>
  have hm:=hx.wr.may y hy v hw
  rw [if_neg (by simp [liveW,valW,hm]),if_neg (by simp [liveW])]
 | none =>
  rw [if_neg (by simp [liveW]),if_neg]
  have hg:getW x.wr y.1=some none:=by rw [getW_of hx.wr.rise hy,hw]
  have hd:=hx.dead he y.1 hg
  unfold oldS at hd
  rw [at_last (ofD_ok h.dir y.1) hlt'] at hd
  rw [hd]
  simp
theorem any_keys {ch:List Ch} {k:Ky} {c:Ch} (h:ch.find? (fun c=>decide (c.key=k))=some c):c∈ch∧c.key=k:=⟨List.mem_of_find?_eq_some h,by have:=List.find?_some h;simpa using this⟩
theorem add_last {t:Tk} {d:Dn} {s:Int} (h:(addT t d).2.last=some s):t.last=some s∨s=d.stamp:=by
 unfold addT at h
 split at h
 ·exact Or.inl h
 ·have h':(keepT t d).last=some s:=h
  rw [keepT_last] at h'
  injection h' with h'
  exact Or.inr h'.symm
theorem okS_done {S:Sv} (h:OkS S) {i:Nat} {x:Tx} (hx:OkX S.D S.floor S.last x) (he:x.ended=false) (hl:(changesS S.D x).any (lateS S.D x.snap)=false) (hv:changesS S.D x≠[]→((countD S.D:Int)+((changesS S.D x).length:Int))≤S.vers∧S.last≠topS) (out:Bool):OkS (doneS S i x (changesS S.D x) out).2:=by
 have hS1:=okS_set h i (okX_end hx)
 have hpi:=puts_in h hx he hl
 have h0:=h.fl0
 have h1:=h.fl
 have htop:=h.top
 have hcm:∀c∈changesS S.D x,(keyB c.key.1 c.key.2=true)∧(c.il=true→mayB c.is=true):=fun c hc=>by
  unfold changesS at hc
  rw [if_neg (by rw [he];simp)] at hc
  obtain ⟨y,hy,rfl⟩:=List.mem_map.1 hc
  refine ⟨hx.wr.key y hy,fun hlv=>?_⟩
  cases hw:y.2 with
  | none=>simp [chgS,liveW,hw] at hlv
  | some v =>
   have:=hx.wr.may y hy v hw
   simpa [chgS,valW,hw] using this
 have hS2:OkS (if changesS S.D x=[] then setS S i { x with ended:=true } else { setS S i { x with ended:=true } with last:=S.last+1,D:=putAll S.D (changesS S.D x) (S.last+1) S.tick }):=by
  split
  ·exact hS1
  ·next hne =>
   obtain ⟨hvv,hlt⟩:=hv hne
   have hn0:(0:Int)≤S.last+1:=by omega
   have hok:=putAll_ok (tick:=S.tick) hn0 h.dir hpi
   have hmem:∀k,∀v∈ofD (putAll S.D (changesS S.D x) (S.last+1) S.tick) k,v∈ofD S.D k∨(v.stamp=S.last+1∧mayB v.val=true∧keyB k.1 k.2=true):=fun k v hv=>by
    rw [putAll_of hpi] at hv
    split at hv
    ·next c hc =>
     obtain ⟨c1,c2⟩:=any_keys hc
     unfold putV at hv
     rcases List.mem_append.1 hv with hv|hv
     ·exact Or.inl hv
     ·rw [List.mem_singleton.1 hv]
      refine Or.inr ⟨rfl,?_,by rw [←c2];exact (hcm c c1).1⟩
      show mayB (if c.il then c.is else [])=true
      split
      ·next hil=>exact (hcm c c1).2 hil
      ·rfl
    ·exact Or.inl hv
   refine ⟨hok,fun k v hv=>?_,fun k hk=>?_,fun k v hv=>?_,h0,by show S.floor≤S.last+1;omega,by show S.last+1≤topS;omega,h.tick,h.tk,fun s hs=>?_,fun z hz=>?_,?_⟩
   ·show v.stamp≤S.last+1
    rcases hmem k v hv with q|q
    ·have:=h.low k v q;omega
    ·omega
   ·obtain ⟨v,hv⟩:=List.exists_mem_of_ne_nil _ hk
    rcases hmem k v hv with q|q
    ·exact h.key k (List.ne_nil_of_mem q)
    ·exact q.2.2
   ·rcases hmem k v hv with q|q
    ·exact h.may k v q
    ·exact q.2.1
   ·show s≤S.last+1
    have:=h.tkl s hs;omega
   ·have hz0:=hS1.txs z hz
    have hzh:z.snap≤S.last:=hz0.hi
    refine ⟨hz0.lo,by show z.snap≤S.last+1;omega,hz0.fl,hz0.wr,fun hez k hk=>?_⟩
    have:=hz0.dead hez k hk
    show ((atV (ofD (putAll S.D (changesS S.D x) (S.last+1) S.tick) k) z.snap).getD zeroV).live=true
    rw [putAll_at hn0 h.dir hpi (s:=S.last) (by omega) hzh]
    exact this
   ·show (countD (putAll S.D (changesS S.D x) (S.last+1) S.tick):Int)≤S.vers
    rw [putAll_count hn0 h.dir hpi]
    omega
 have hl2:(0:Int)≤(if changesS S.D x=[] then setS S i { x with ended:=true } else { setS S i { x with ended:=true } with last:=S.last+1,D:=putAll S.D (changesS S.D x) (S.last+1) S.tick }).last:=by
  have a:=hS2.fl0
  have b:=hS2.fl
  omega
 unfold doneS
 simp only
 generalize (if changesS S.D x=[] then setS S i { x with ended:=true } else { setS S i { x with ended:=true } with last:=S.last+1,D:=putAll S.D (changesS S.D x) (S.last+1) S.tick })=S2 at *
 split
 ·exact hS2
 ·refine ⟨hS2.dir,hS2.low,hS2.key,hS2.may,hS2.fl0,hS2.fl,hS2.top,hS2.tick,ok_dropT (ok_addT hS2.tk _ hl2) _,fun s hs=>?_,hS2.txs,hS2.cnt⟩
  rcases add_last (t:=S2.tk) hs with q|q
  ·exact hS2.tkl s q
  ·rw [q]
   exact Int.le_refl _
theorem okS_commit {S:Sv} (h:OkS S) {i:Nat} {x:Tx} (hx:OkX S.D S.floor S.last x):OkS (commitS S i x).2:=by
 have hS1:=okS_set h i (okX_end hx)
 unfold commitS
 split
 ·exact h
 ·next he =>
  split
  ·exact hS1
  ·next hl =>
   split
   ·exact hS1
   ·split
    ·exact hS1
    ·next hv =>
     split
     ·exact hS1
     ·next hsp =>
      refine okS_done h hx (by simpa using he) (by simpa using hl) (fun hne=>⟨?_,fun e=>hsp ⟨hne,e⟩⟩) _
      exact Int.not_lt.1 fun q=>hv ⟨hne,q⟩
end
section
open Go.RowKit
theorem isXs_nil (W:World):IsXs W (.slice none 0 0) []∧FitX []∧CopyX []:=⟨⟨none,0,rfl,Or.inl rfl,fun _ h=>by simp at h⟩,⟨by unfold maxLen;simp,fun _ h=>by simp at h⟩,⟨by simp,fun _ h=>by simp at h⟩⟩
end
section
open Go.RowKit
def ApartF (fs:List Fd):Prop:=fs.Pairwise fun x y=>∀k,BlkV x.v k→¬ BlkV y.v k
def FoPost (w:World) (l:List Fnd) (e:Ending) (w':World):Prop :=
 ∃u fs,e=.returned u∧KFd.Own w.heap.size w' u fs∧(∀f∈fs,OwnJ w.heap.size w' f.v.sl f.v.o∧FitX f.v.o)∧ApartF fs∧fs.map Fd.fnd=l∧Below w.heap.size w w'
end
section
open Go.RowKit
def GetPostP (W:World) (L:List RowW) (k:Ky) (e:Ending) (w':World):Prop :=
 ∃p c o,e=.returned (.tuple #[.slice p o.length c,.bool (liveW (getW L k)),.bool (getW L k).isSome])∧OwnJ W.heap.size w' (.slice p o.length c) o∧o.map Fx.fld=valW (getW L k)∧Below W.heap.size W w'
def KeysPost (W:World) (l:List Ky) (e:Ending) (w':World):Prop:=∃u,e=.returned u∧KK.Own W.heap.size w' u l∧Below W.heap.size W w'
end
section
open Go.RowKit Go.Maps
structure MKind (κ ε:Type) where
 K:TypeId
 E:TypeId
 M:TypeId
 key:κ→Value
 lit:κ→Lit
 fit:κ→Prop
 val:ε→Value
 enc:ε→DataW Unit
 read:Value→Option (DataW Unit × List MemPlace)
 zero:ε
 und:Tryz.prog.underlying M=some (.map K E)
 keyed:Keyed Tryz.prog K
 key_is:∀x,fit x→keyOf Tryz.prog K (key x)=some (lit x)
 key_fit:∀x l,keyOf Tryz.prog K (key x)=some l→fit x∧l=lit x
 key_inv:∀v l,keyOf Tryz.prog K v=some l→∃x,v=key x
 lit_inj:∀x y,fit x→fit y→lit x=lit y→x=y
 read_mk:∀e,read (val e)=some (enc e,[])
 read_inv:∀v y,read v=some y→∃e,v=val e
 enc_inj:∀a b,enc a=enc b→a=b
 zeroV:∀w,(zeroValue E).run Tryz.prog w=.ok (val zero) w
def MapG {κ ε:Type} (T:MKind κ ε) (W:World) (m n:Nat) (f:κ→Option ε) (c:Nat):Prop :=
 ∃D:DataW Unit,W.ownsMap Tryz.prog T.K T.read m n D∧(∀k,T.fit k→D.atKey (T.lit k) (T.enc T.zero)=T.enc ((f k).getD T.zero))∧(∀k,T.fit k→Maps.has D (T.lit k)=(f k).isSome)∧Maps.size D=c
section
variable {κ ε:Type} {T:MKind κ ε} {W:World} {m n:Nat} {f:κ→Option ε} {c:Nat}
theorem mapG_made (T:MKind κ ε) (w:World):MapG T (w.alloc (.map #[] 0)) w.heap.size 0 (fun _=>none) 0:=⟨.map [],World.ownsMap_made _ _ _ _,fun _ _=>rfl,fun _ _=>rfl,rfl⟩
theorem MapG.lt (h:MapG T W m n f c):m<W.heap.size:=by obtain ⟨D,h,_⟩:=h;exact h.lt
theorem MapG.on {W':World} (h:MapG T W m n f c) (hb:W'.heap[m]? = W.heap[m]?):MapG T W' m n f c:=by
 obtain ⟨D,⟨es,clock,h1,h2⟩,h3⟩:=h
 exact ⟨D,⟨es,clock,hb.trans h1,h2⟩,h3⟩
theorem MapG.congr {f':κ→Option ε} (h:MapG T W m n f c) (hf:∀k,T.fit k→f k=f' k):MapG T W m n f' c:=by
 obtain ⟨D,h1,h2,h3,h4⟩:=h
 exact ⟨D,h1,fun k hk=>by rw [←hf k hk];exact h2 k hk,fun k hk=>by rw [←hf k hk];exact h3 k hk,h4⟩
theorem MapG.obj (h:MapG T W m n f c):∃es clock,W.heap[m]? = some (.map es clock):=by
 obtain ⟨D,⟨es,clock,h1,h2⟩,h3⟩:=h
 exact ⟨es,clock,h1⟩
theorem MapG.off (h:MapG T W m n f c) {b:Nat} {cs:Array Value} {t:TypeId} {fr:Nat × Nat} (hc:W.heap[b]? = some (.cells cs t fr)):b≠m:=by
 obtain ⟨es,clock,h1⟩:=h.obj
 rintro rfl
 rw [hc] at h1
 cases h1
set_option maxRecDepth 100000 in
theorem mapG_look_ok (h:MapG T W m n f c) {k:κ} (hk:T.fit k):(Instr.lookup T.M (.map (some m)) (T.key k) true).run Tryz.prog W=.ok (.tuple #[T.val ((f k).getD T.zero),.bool (f k).isSome]) W:=by
 obtain ⟨D,hD,hf,hh,_⟩:=h
 obtain ⟨v,ps,hrun,hv⟩:=hD.look_ok T.keyed T.und (T.zeroV _) (T.read_mk T.zero) (T.key_is k hk)
 obtain ⟨o,rfl⟩:=T.read_inv _ _ hv
 rw [T.read_mk,hf k hk] at hv
 injection hv with hv
 injection hv with hv
 rw [←T.enc_inj _ _ hv,←hh k hk]
 exact hrun
set_option maxRecDepth 100000 in
theorem mapG_put [DecidableEq κ] (h:MapG T W m n f c) {k:κ} (hk:T.fit k) (hn:n<maxLen) (e:ε) :
  ∃w',(Instr.mapUpdate T.M (.map (some m)) (T.key k) (T.val e)).run Tryz.prog W=.ok () w'∧MapG T w' m (n+1) (fun y=>if y=k then some e else f y) (if (f k).isSome then c else c+1)∧W.grownBy w' (some m):=by
 obtain ⟨D,hD,hf,hh,hc⟩:=h
 obtain ⟨w',hrun,hD',hg⟩:=hD.update T.keyed T.und hn (T.key_is k hk) (T.read_mk e)
 have hlit:=T.keyed.key (T.key_is k hk)
 refine ⟨w',hrun,⟨_,hD',fun y hy=>?_,fun y hy=>?_,?_⟩,hg⟩
 ·by_cases e1:y=k
  ·subst e1
   simp only [if_true]
   exact atKey_put_same hD.isMap hlit _ _
  ·simp only [if_neg e1]
   rw [atKey_put_other (fun h=>e1 (T.lit_inj _ _ hy hk h))]
   exact hf y hy
 ·by_cases e1:y=k
  ·subst e1
   simp only [if_true]
   exact has_put_same hD.isMap hlit _
  ·simp only [if_neg e1]
   rw [has_put_other (fun h=>e1 (T.lit_inj _ _ hy hk h))]
   exact hh y hy
 ·rw [size_put (hD.tidy T.keyed),hh k hk,hc]
set_option maxRecDepth 100000 in
theorem mapG_del [DecidableEq κ] (h:MapG T W m n f c) {k:κ} (hk:T.fit k) (ty:TypeId) :
  ∃w' c',(Builtin.delete_ #[T.M,T.K] ty #[.map (some m),T.key k]).run Tryz.prog W=.ok (.tuple #[]) w'∧MapG T w' m n (fun y=>if y=k then none else f y) c'∧c'+(if (f k).isSome then 1 else 0)=c∧W.grownBy w' (some m)∧w'.heap.size=W.heap.size:=by
 obtain ⟨D,hD,hf,hh,hc⟩:=h
 obtain ⟨w',hrun,hD',hg⟩:=hD.drop T.keyed T.und (T.key_is k hk) ty
 refine ⟨w',_,hrun,⟨_,hD',fun y hy=>?_,fun y hy=>?_,rfl⟩,?_,hg.grown,?_⟩
 ·by_cases e1:y=k
  ·subst e1
   simp only [if_true]
   exact atKey_del_same _
  ·simp only [if_neg e1]
   rw [atKey_del_other (fun h=>e1 (T.lit_inj _ _ hy hk h))]
   exact hf y hy
 ·by_cases e1:y=k
  ·subst e1
   simp only [if_true]
   exact has_del_same
  ·simp only [if_neg e1]
   rw [has_del_other (fun h=>e1 (T.lit_inj _ _ hy hk h))]
   exact hh y hy
 ·rw [←hh k hk,size_del (hD.tidy T.keyed),hc]
 ·obtain ⟨es,clock,es',clock',h1,rfl⟩:=hg
  simp [ChangeMaps.setBlock]
set_option maxRecDepth 100000 in
theorem mapG_len (h:MapG T W m n f c) (ty:TypeId):(Builtin.len_ #[T.M] ty #[.map (some m)]).run Tryz.prog W=.ok (.int .i64 c) W:=by
 obtain ⟨D,hD,_,_,rfl⟩:=h
 exact hD.len T.und ty
end
def RangeG {κ ε:Type} (T:MKind κ ε) (W:World) (m r n:Nat) (f:κ→Option ε) (c:Nat) (seen:List κ) (cnt:Nat):Prop :=
 ∃(D:DataW Unit) (left:Lit→Bool),W.ranges Tryz.prog T.K T.read m r n D left cnt∧(∀k,T.fit k→D.atKey (T.lit k) (T.enc T.zero)=T.enc ((f k).getD T.zero))∧(∀k,T.fit k→Maps.has D (T.lit k)=(f k).isSome)∧Maps.size D=c ∧
  (∀k,T.fit k→(left (T.lit k)=true↔(f k).isSome=true∧k ∉ seen))∧seen.Nodup∧(∀k∈seen,T.fit k∧(f k).isSome=true)∧seen.length+cnt≤c
section
variable {κ ε:Type} {T:MKind κ ε} {W:World} {m r n:Nat} {f:κ→Option ε} {c:Nat} {seen:List κ} {cnt:Nat}
theorem RangeG.left_eq (h:RangeG T W m r n f c seen cnt):W.rangeLeft m r=cnt:=by
 obtain ⟨D,left,h1,_⟩:=h
 exact h1.left_eq
theorem RangeG.map (h:RangeG T W m r n f c seen cnt):MapG T W m n f c:=by
 obtain ⟨D,left,h1,h2,h3,h4,_⟩:=h
 exact ⟨D,h1.owns,h2,h3,h4⟩
theorem RangeG.lt (h:RangeG T W m r n f c seen cnt):r<W.heap.size:=by
 obtain ⟨D,left,h1,_⟩:=h
 exact h1.lt
theorem RangeG.nodup (h:RangeG T W m r n f c seen cnt):seen.Nodup∧(∀k∈seen,T.fit k∧(f k).isSome=true)∧seen.length+cnt≤c:=by
 obtain ⟨D,left,h1,_,_,_,_,h2,h3,h4⟩:=h
 exact ⟨h2,h3,h4⟩
theorem RangeG.iter (h:RangeG T W m r n f c seen cnt):∃since sn c0,W.heap[r]? = some (.mapIter (some m) since sn c0):=by
 obtain ⟨D,left,⟨es,clock,since,sn,c0,_,_,_,_,h5,_⟩,_⟩:=h
 exact ⟨since,sn,c0,h5⟩
theorem RangeG.on {W':World} (h:RangeG T W m r n f c seen cnt) (hm:W'.heap[m]? = W.heap[m]?) (hr:W'.heap[r]? = W.heap[r]?):RangeG T W' m r n f c seen cnt:=by
 obtain ⟨D,left,⟨es,clock,since,sn,c0,h1,h2,h3,h4,h5,h6⟩,h7⟩:=h
 exact ⟨D,left,⟨es,clock,since,sn,c0,hm.trans h1,h2,h3,h4,hr.trans h5,h6⟩,h7⟩
end
section
variable {κ ε:Type} {T:MKind κ ε} (w:World) {ops:Array Oper} {rest:List Oper} {o:Oper} {a:Act} {Q:Exit→Act→World→Prop}
set_option maxRecDepth 100000 in
theorem wp_range_G (hg:o.guard=none) (mo:Operand) (hop:o.op=Op.range T.M mo) (m n:Nat) (f:κ→Option ε) (c:Nat) (hm:a.eval mo=.map (some m)) (h:MapG T w m n f c)
  (hK:∀w',RangeG T w' m w.heap.size n f c [] c→w.grownBy w' none→w'.heap.size=w.heap.size+1→wpList Tryz.prog ops Q rest (a.put o.dst (.pointer (some ⟨w.heap.size,0,none⟩))) w') :
  wpList Tryz.prog ops Q (o::rest) a w:=by
 obtain ⟨D,hD,hf,hh,hc⟩:=h
 refine wpList_range_own w hg mo _ hop _ _ T.keyed T.und T.read m n D hm hD fun w' h1 h2 h3=>hK w' ?_ h2 h3
 rw [hc] at h1
 exact ⟨D,_,h1,hf,hh,hc,fun k hk=>by rw [hh k hk];simp,List.nodup_nil,fun k hk=>by simp at hk,by simp⟩
set_option maxRecDepth 100000 in
theorem wp_next_G (hg:o.guard=none) (it:Operand) (hop:o.op=Op.next it false) (m r n:Nat) (f:κ→Option ε) (c:Nat) (seen:List κ) (cnt:Nat) (hit:a.eval it=.pointer (some ⟨r,0,none⟩)) (h:RangeG T w m r n f c seen cnt)
  (hDone:(∀k,T.fit k→(f k).isSome=true→k∈seen)→wpList Tryz.prog ops Q rest (a.put o.dst (.tuple #[.bool false])) w)
  (hMore:∀(k:κ) (e:ε) (w':World) (cnt':Nat),T.fit k→k ∉ seen→f k=some e→RangeG T w' m r n f c (seen++[k]) cnt'→cnt'<cnt→w.grownBy w' (some r)→w'.heap.size=w.heap.size →
   (Instr.entry (.pointer (some ⟨r,0,none⟩))).run Tryz.prog w'=.ok (.tuple #[T.key k,T.val e]) w'→wpList Tryz.prog ops Q rest (a.put o.dst (.tuple #[.bool true,T.key k,T.val e])) w') :
  wpList Tryz.prog ops Q (o::rest) a w:=by
 obtain ⟨D,left,h1,h2,h3,hc,h4,h5,h6,h7⟩:=h
 refine wpList_next_ranges w hg it hop _ T.keyed T.read T.key T.val T.key_inv T.read_inv m r n D left cnt hit h1 (fun _ hl=>hDone fun k hk hs=>?_) fun x e kl y w' cnt' hkey hlk hR hat hr hlt hg' hsz hen=>?_
 ·refine Classical.byContradiction fun hn=>?_
  have:=(h4 k hk).2 ⟨hs,hn⟩
  rw [hl] at this
  cases this
 ·obtain ⟨hx,rfl⟩:=T.key_fit _ _ hkey
  have hb:(f x).isSome=true∧x ∉ seen:=(h4 x hx).1 hlk
  obtain ⟨e',he'⟩:=Option.isSome_iff_exists.1 hb.1
  have hee:e=e':=by
   rw [T.read_mk] at hR
   injection hR with hR
   have:=hat (T.enc T.zero)
   rw [←hR,h2 x hx,he'] at this
   exact (T.enc_inj _ _ this).symm
  subst hee
  refine hMore x e w' cnt' hx hb.2 he' ⟨D,_,hr,h2,h3,hc,fun k hk=>?_,?_,fun k hk=>?_,by rw [List.length_append,List.length_singleton];omega⟩ hlt hg' hsz hen
  ·show (left (T.lit k) && !(T.lit k).sameKey (T.lit x))=true↔_
   rw [Bool.and_eq_true,h4 k hk]
   by_cases e1:k=x
   ·subst e1
    rw [WideAt.sameKey_self (T.keyed.key (T.key_is k hk))]
    simp
   ·rw [sameKey_ne (fun h=>e1 (T.lit_inj _ _ hk hx h))]
    simp [e1]
  ·exact List.nodup_append.2 ⟨h5,by simp,fun a ha b hb'=>by
    rw [List.mem_singleton] at hb'
    rintro rfl
    rw [hb'] at ha
    exact hb.2 ha⟩
  ·rcases List.mem_append.1 hk with hk|hk
   ·exact h6 k hk
   ·rw [List.mem_singleton] at hk
    subst hk
    exact ⟨hx,hb.1⟩
end
end
section
open Go.RowKit Go.Maps
theorem MapG.tight {κ ε:Type} {T:MKind κ ε} {W:World} {m n:Nat} {f:κ→Option ε} {c:Nat} (h:MapG T W m n f c):MapG T W m c f c:=by
 obtain ⟨D,⟨es,clock,h1,h2,h3,h4⟩,h5,h6,h7⟩:=h
 refine ⟨D,⟨es,clock,h1,h2,?_,h4⟩,h5,h6,h7⟩
 rw [←h7,h4]
 simp [Maps.size,length_sorted]
structure We where
 live:Bool
 p:Option Nat
 len:Nat
 cap:Nat
def We.sl (e:We):Value:=.slice (e.p.map fun b=>⟨b,0,none⟩) e.len e.cap
def We.val (e:We):Value:=.agg #[.bool e.live,e.sl]
def ptrI (p:Option Nat):Int:=match p with|none=>-1|some b=>(b:Int)
def We.enc (e:We):DataW Unit:=.agg [.lit (.bool e.live),.lit (.int .i64 (ptrI e.p)),.lit (.int .i64 (e.len:Int)),.lit (.int .i64 (e.cap:Int))]
theorem ptrI_inj {p q:Option Nat} (h:ptrI p=ptrI q):p=q:=by
 cases p<;>cases q<;>simp only [ptrI] at h
 ·rfl
 ·omega
 ·omega
 ·exact congrArg some (by omega)
theorem We.val_inj {a b:We} (h:a.val=b.val):a=b:=by
 obtain ⟨l,p,n,c⟩:=a
 obtain ⟨l',p',n',c'⟩:=b
 simp only [We.val,We.sl,Value.agg.injEq,Array.mk.injEq,List.cons.injEq,Value.bool.injEq,Value.slice.injEq] at h
 obtain ⟨rfl,⟨h2,rfl,rfl⟩,_⟩:=h
 have:p=p':=by cases p<;>cases p'<;>simp_all
 rw [this]
theorem We.enc_inj {a b:We} (h:a.enc=b.enc):a=b:=by
 obtain ⟨l,p,n,c⟩:=a
 obtain ⟨l',p',n',c'⟩:=b
 simp only [We.enc,DataW.agg.injEq,List.cons.injEq,DataW.lit.injEq,Lit.bool.injEq,Lit.int.injEq,true_and] at h
 obtain ⟨rfl,h2,h3,h4,_⟩:=h
 rw [ptrI_inj h2,show n=n' by omega,show c=c' by omega]
open Classical in
noncomputable def MW:MKind Ky We where
 K:=39
 E:=259
 M:=243
 key:=valK
 lit:=keyL
 fit:=FitK
 val:=We.val
 enc:=We.enc
 read v:=if h:∃e,v=We.val e then some (We.enc h.choose,[]) else none
 zero:=⟨false,none,0,0⟩
 und:=Tryz.underlying243
 keyed:=Tryz.keyedKey
 key_is _ h:=keyL_is h
 key_fit _ _ h:=keyL_fit h
 key_inv v l h:=keyL_inv v l h
 lit_inj _ _ hx hy h:=keyL_inj hx hy h
 read_mk e:=by
  have h:∃e',We.val e=We.val e':=⟨e,rfl⟩
  rw [dif_pos h,←We.val_inj h.choose_spec]
 read_inv v y h:=by
  split at h
  ·next h'=>exact h'
  ·cases h
 enc_inj _ _ h:=We.enc_inj h
 zeroV w:=by kernel_rfl
def fS (L:List RowW) (F:Ky→We) (k:Ky):Option We:=(getW L k).map fun _=>F k
def RowS (n0:Nat) (W:World) (e:We) (o:List Fx) (r:Wr):Prop:=e.live=r.isSome∧OwnJ n0 W e.sl o∧o.map Fx.fld=valW (some r)
structure PrgU (n0:Nat) (W:World) (B:Nat→Prop) (g m:Nat) (F:Ky→We) (O:Ky→List Fx) (L:List RowW):Prop where
 obj:W.heap[g]? = some (.cells #[.map (some m)] 245 (0,0))
 map:MapG MW W m L.length (fS L F) L.length
 row:∀k r,getW L k=some r→RowS n0 W (F k) (O k) r
 gle:n0≤g
 mle:n0≤m
 ok:OkW L
 blk:∀j,B j↔j=g∨j=m∨∃k,(getW L k).isSome=true∧BlkX (F k).sl (O k) j
def PrgW (n0:Nat) (W:World) (B:Nat→Prop) (g:Nat) (L:List RowW):Prop:=∃m F O,PrgU n0 W B g m F O L
section
variable {n0:Nat} {W:World} {B:Nat→Prop} {g m:Nat} {F:Ky→We} {O:Ky→List Fx} {L:List RowW}
theorem PrgU.cell (h:PrgU n0 W B g m F O L):W.cell? ⟨g,0,none⟩=some (.map (some m)):=by rw [Lib.cell_of_heap h.obj];rfl
theorem PrgU.bounds (h:PrgU n0 W B g m F O L) (k:Nat) (hk:B k):n0≤k∧k<W.heap.size:=by
 rcases (h.blk k).1 hk with rfl|rfl|⟨j,hj,hb⟩
 ·exact ⟨h.gle,(Array.getElem?_eq_some_iff.1 h.obj).1⟩
 ·exact ⟨h.mle,h.map.lt⟩
 ·obtain ⟨r,hr⟩:=Option.isSome_iff_exists.1 hj
  exact ownJ_blk (h.row j r hr).2.1 k hb
theorem PrgU.fr {W':World} {P:Nat→Prop} (h:PrgU n0 W B g m F O L) (f:Fr P W W') (hP:∀k,B k→¬ P k):PrgU n0 W' B g m F O L :=
 ⟨(f.block g (Array.getElem?_eq_some_iff.1 h.obj).1 (hP g ((h.blk g).2 (Or.inl rfl)))).trans h.obj,h.map.on (f.block m h.map.lt (hP m ((h.blk m).2 (Or.inr (Or.inl rfl))))),
  fun k r hr=>⟨(h.row k r hr).1,ownJ_fr (h.row k r hr).2.1 f fun j hj=>hP j ((h.blk j).2 (Or.inr (Or.inr ⟨k,by rw [hr];rfl,hj⟩))),(h.row k r hr).2.2⟩,h.gle,h.mle,h.ok,h.blk⟩
theorem PrgU.on {W':World} (h:PrgU n0 W B g m F O L) (hb:Below W.heap.size W W'):PrgU n0 W' B g m F O L :=
 h.fr (P:=fun _=>False) (Fr.of_below hb) fun _ _ k=>k
theorem PrgU.off (h:PrgU n0 W B g m F O L) {k:Ky} {r:Wr} (hr:getW L k=some r) {j:Nat} (hj:BlkX (F k).sl (O k) j):j≠m:=by
 have hJ:=(h.row k r hr).2.1
 rcases hj with hj|⟨f,hf,hj⟩
 ·obtain ⟨cs,hc⟩:=own_type hJ.1.1 hj
  exact h.map.off hc
 ·obtain ⟨cs,hc⟩:=own_type (hJ.1.2 f hf) hj
  exact h.map.off hc
end
theorem allW_is (g m:Nat) (W:World) (c0:W.cell? ⟨g,0,none⟩=some (.map (some m))):Calls Tryz.prog 170 #[.pointer (some ⟨g,0,none⟩)] W fun e w'=>e=.returned (.map (some m))∧w'=W:=by
 go_enter Tryz.func170,Tryz.ntmps170
 go_wp2_with fail
 go_ret
 exact ⟨rfl,rfl⟩
set_option maxHeartbeats 4000000 in
set_option maxRecDepth 100000 in
theorem wnew_any (n0:Nat) (W:World) (hn:n0≤W.heap.size):Calls Tryz.prog 76 #[] W fun e w'=>∃B g,e=.returned (.pointer (some ⟨g,0,none⟩))∧PrgW n0 w' B g []∧Below W.heap.size W w'∧∀k,B k→W.heap.size≤k:=by
 have hmm:=@run_makeMap Tryz.prog
 have hb:Below W.heap.size W ((W.alloc (.map #[] 0)).alloc (.cells #[.map (some W.heap.size)] 245)):=((Below.refl _ _).alloc (Nat.le_refl _) _).alloc (by simp) _
 have HM:Hid (PrgW n0 ((W.alloc (.map #[] 0)).alloc (.cells #[.map (some W.heap.size)] 245)) (fun k=>k=W.heap.size+1∨k=W.heap.size) (W.heap.size+1) []):=by
  have h1:=heap_alloc_new (W.alloc (.map #[] 0)) (.cells #[.map (some W.heap.size)] 245)
  rw [World.size_alloc] at h1
  refine ⟨W.heap.size,fun _=>⟨false,none,0,0⟩,fun _=>[],h1,?_,fun k r hr=>(by cases hr),by omega,hn,okW_nil,fun k=>?_⟩
  ·exact ((mapG_made MW W).on (Below.heap_alloc _ _ _ (by simp))).congr fun k _=>rfl
  ·simp [getW]
 have HB:=hid hb
 clear hb
 go_enter Tryz.func76,Tryz.ntmps76
 go_wp2_with fail
 go_ret
 exact ⟨_,_,rfl,HM.out,HB.out,fun k hk=>by rcases hk with rfl|rfl<;>omega⟩
set_option maxHeartbeats 4000000 in
set_option maxRecDepth 100000 in
theorem wcopied_any (v:Value) (d:List Fx) (w:World) (hv:IsXs w v d) (hf:FitX d) (hc:CopyX d) :
  Calls Tryz.prog 145 #[v] w fun e w'=>∃u o,e=.returned u∧OwnJ w.heap.size w' u o∧o.map Fx.fld=d.map Fx.fld∧Below w.heap.size w w':=by
 have HC:=hid (cloneX_any v d w hv hc.1)
 have HT:=hid hv.at_all
 have H16:=hid hc.2
 have hl:=hf.1
 unfold maxLen at hl
 clear hv hf hc
 go_enter Tryz.func145,Tryz.ntmps145
 go_wp2_with fail
 refine HC.out.mono ?_
 rintro e w1 ⟨u,rfl,ho,hb⟩
 have H0:=hid (CpIn.start ho hb)
 obtain ⟨p,cap,rfl,hp⟩:∃p cap,u=.slice p d.length cap∧(0<d.length→∃g,p=some ⟨g,0,none⟩):=by
  rcases ho.2 with ⟨h1,h2⟩|⟨g,cap,_,h1,_⟩
  ·exact ⟨none,0,by rw [h2];exact h1,fun h=>by omega⟩
  ·exact ⟨_,_,h1,fun _=>⟨g,rfl⟩⟩
 have HP:=hid hp
 clear ho hb HC hp
 go_wp2_with fail
 go_loopg [9] d.length (fun gg vi wr=>∃(i:Nat) (o:List Fx),vi=.int .i64 i∧i≤d.length∧d.length-i≤gg∧Hid (CpIn w (.slice p d.length cap) d i o wr))
 case atStart=>exact ⟨0,[],rfl,by omega,by omega,H0.out⟩
 case round =>
  clear H0
  obtain ⟨i,o,rfl,hi,hgk,HI⟩:=hrel
  by_cases hlt:i<d.length
  ·have hltz:(i:Int)<(d.length:Int):=by omega
   have hiz:(0:Int)≤i:=by omega
   obtain ⟨g,rfl⟩:=HP.out (by omega)
   obtain ⟨c0,f0⟩:=HI.out.cells hlt wr (Below.refl _ _)
   have HCL:=hid (HI.out.cells hlt)
   have HCT:=hid (cloneT_any (d[i]).p (d[i]).cap (d[i]).txt wr ((HT.out _ (List.getElem_mem hlt)).kept HI.out.bel) (H16.out _ (List.getElem_mem hlt)))
   have HNX:Hid (∀W5 p5 c5,Below wr.heap.size wr W5→OwnT wr.heap.size W5 (.slice p5 (d[i]).txt.length c5) (d[i]).txt→CpIn w (.slice (some ⟨g,0,none⟩) d.length cap) d (i+1) (o++[⟨(d[i]).name,p5,c5,(d[i]).txt⟩]) (W5.setCell ⟨g,i * 2+1,none⟩ (.slice p5 (d[i]).txt.length c5))):=fun W5 p5 c5 h1 h2=>HI.out.next hlt h1 h2
   clear HI
   generalize d[i]=x at *
   obtain ⟨nm,p5,c5,ts⟩:=x
   simp only [Fx.sl] at c0 HCL HCT HNX
   go_wp2_with fail
   refine HCT.out.mono ?_
   rintro e w5 ⟨sv,rfl,hot5,hb5⟩
   obtain ⟨p6,c6,rfl⟩:=own_slice hot5
   obtain ⟨q0,q1⟩:=HCL.out w5 hb5
   have HN:=hid (HNX.out w5 p6 c6 hb5 hot5)
   clear hot5 hb5 c0 f0
   go_wp2_with fail
   go_roundg (d.length-(i+1))
   case measure=>omega
   exact ⟨i+1,_,by go_num,by omega,by omega,HN.out⟩
  ·have hltz:¬ (i:Int)<(d.length:Int):=by omega
   have HD:=hid (HI.out.done hlt)
   have HB:=hid HI.out.bel
   clear HI
   go_wp2_with fail
   go_ret
   exact ⟨_,rfl,o,HD.out.1,HD.out.2,HB.out⟩
end
section
open Go.RowKit Go.Maps
theorem delW_all {k:Ky}:∀{L:List RowW},(∀y∈L,y.1≠k)→delW L k=L:=fun {L} h=>List.filter_eq_self.2 fun y hy=>by simp [h y hy]
theorem delW_count {k:Ky}:∀{L:List RowW},(L.Pairwise fun x y=>ltKy x.1 y.1=true)→(delW L k).length+(if (getW L k).isSome=true then 1 else 0)=L.length
 | [],_=>rfl
 | y::r,h=>by
  obtain ⟨h1,h2⟩:=List.pairwise_cons.1 h
  by_cases e:y.1=k
  ·have hne:∀z∈r,z.1≠k:=fun z hz ez=>by
    have:=h1 z hz
    rw [e,ez,totK.irr] at this
    cases this
   have hd:delW (y::r) k=r:=by
    show List.filter _ (y::r)=r
    rw [List.filter_cons_of_neg (by simp [e])]
    exact delW_all hne
   rw [hd]
   simp [getW,e]
  ·have ih:=delW_count (k:=k) h2
   have hd:delW (y::r) k=y::delW r k:=by
    show List.filter _ (y::r)=_
    rw [List.filter_cons_of_pos (by simp [e])]
    rfl
   have hg:getW (y::r) k=getW r k:=by rw [getW,if_neg e]
   rw [hd,hg,List.length_cons,List.length_cons]
   omega
theorem layW_count {L:List RowW} (h:OkW L) (k:Ky) (e:Wr):(layW L k e).length=if (getW L k).isSome=true then L.length else L.length+1:=by
 have:=delW_count (k:=k) h.rise
 unfold layW
 rw [insP_len]
 split at this
 ·next hs=>rw [if_pos hs];omega
 ·next hs=>rw [if_neg hs];omega
theorem fS_some {L:List RowW} {F:Ky→We} {k:Ky}:(fS L F k).isSome=(getW L k).isSome:=by
 unfold fS
 cases getW L k<;>rfl
def STurn (n0:Nat) (W:World) (B:Nat→Prop) (g:Nat) (L:List RowW) (w':World):Prop:=∃B',PrgW n0 w' B' g L∧Fr B W w'∧∀k,B' k→B k∨W.heap.size≤k
section
variable {n0:Nat} {W:World} {B:Nat→Prop} {g m:Nat} {F:Ky→We} {O:Ky→List Fx} {L:List RowW}
theorem STurn.below {w':World} (h:PrgU n0 W B g m F O L) (hb:Below W.heap.size W w'):STurn n0 W B g L w':=⟨B,⟨m,F,O,h.on hb⟩,Fr.of_below hb,fun _ hk=>Or.inl hk⟩
def BlkS (g m:Nat) (F:Ky→We) (O:Ky→List Fx) (L:List RowW) (j:Nat):Prop:=j=g∨j=m∨∃k,(getW L k).isSome=true∧BlkX (F k).sl (O k) j
theorem PrgU.old (h:PrgU n0 W B g m F O L) {W3 w4:World} (hb:Below W.heap.size W W3) (hg:W3.grownBy w4 (some m)) {k:Ky} {r:Wr} (hr:getW L k=some r):RowS n0 w4 (F k) (O k) r:=by
 have h3:=(h.on hb).row k r hr
 exact ⟨h3.1,ownJ_fr h3.2.1 (Fr.of_grown (P:=fun j=>j=m) hg fun j hj=>by injection hj with hj;exact hj.symm) fun j hj e=>(h.on hb).off hr hj e,h3.2.2⟩
theorem PrgU.turned (h:PrgU n0 W B g m F O L) {W3 w4:World} (hb:Below W.heap.size W W3) (hg:W3.grownBy w4 (some m)):w4.heap[g]? = some (.cells #[.map (some m)] 245 (0,0))∧Fr B W w4:=by
 have h3:=h.on hb
 refine ⟨(hg.block g (Array.getElem?_eq_some_iff.1 h3.obj).1 (fun e=>h3.map.off h3.obj (by injection e))).trans h3.obj,?_⟩
 exact Fr.then (Fr.of_below hb) (Fr.of_grown (P:=fun j=>j=m) hg fun j hj=>by injection hj with hj;exact hj.symm) fun j hj=>Or.inl ((h.blk j).2 (Or.inr (Or.inl hj)))
theorem PrgU.lay (h:PrgU n0 W B g m F O L) (hn:n0≤W.heap.size) {W3 w4:World} (hb:Below W.heap.size W W3) (k:Ky) (hk:keyB k.1 k.2=true) (e:We) (o:List Fx) (r:Wr) (hm:∀v,r=some v→mayB v=true) (hrow:RowS W.heap.size W3 e o r)
  (hM:MapG MW w4 m (L.length+1) (fun y=>if y=k then some e else fS L F y) (if (fS L F k).isSome then L.length else L.length+1)) (hg:W3.grownBy w4 (some m)):STurn n0 W B g (layW L k r) w4:=by
 obtain ⟨hobj,hfr⟩:=h.turned hb hg
 have hml:m<W.heap.size:=h.map.lt
 have hnew:RowS n0 w4 e o r:=by
  refine ⟨hrow.1,own_weakJ (ownJ_fr hrow.2.1 (Fr.of_grown (P:=fun j=>j=m) hg fun j hj=>by injection hj with hj;exact hj.symm) fun j hj ej=>?_) hn,hrow.2.2⟩
  have:=(ownJ_blk hrow.2.1 j hj).1
  omega
 have hcnt:=layW_count h.ok k r
 rw [fS_some,←hcnt] at hM
 refine ⟨BlkS g m (fun y=>if y=k then e else F y) (fun y=>if y=k then o else O y) (layW L k r),⟨m,fun y=>if y=k then e else F y,fun y=>if y=k then o else O y,hobj,hM.tight.congr fun y _=>?_,fun y r' hr'=>?_,h.gle,h.mle,okW_lay h.ok k r hk hm,fun j=>Iff.rfl⟩,hfr,fun j hj=>?_⟩
 ·unfold fS
  rw [getW_lay]
  by_cases ey:y=k
  ·rw [if_pos ey,if_pos ey]
   simp [ey]
  ·rw [if_neg ey,if_neg ey]
   simp only [if_neg ey]
 ·rw [getW_lay] at hr'
  by_cases ey:y=k
  ·rw [if_pos ey] at hr'
   injection hr' with hr'
   subst hr'
   simp only [if_pos ey]
   exact hnew
  ·rw [if_neg ey] at hr'
   simp only [if_neg ey]
   exact h.old hb hg hr'
 ·rcases hj with rfl|rfl|⟨y,hy,hj⟩
  ·exact Or.inl ((h.blk _).2 (Or.inl rfl))
  ·exact Or.inl ((h.blk _).2 (Or.inr (Or.inl rfl)))
  ·rw [getW_lay] at hy
   by_cases ey:y=k
   ·simp only [if_pos ey] at hj
    exact Or.inr (ownJ_blk hrow.2.1 j hj).1
   ·rw [if_neg ey] at hy
    simp only [if_neg ey] at hj
    exact Or.inl ((h.blk j).2 (Or.inr (Or.inr ⟨y,hy,hj⟩)))
end
end
section
open Go.RowKit
structure Dx where
 snap:Int
 stamp:Int
 out:Bool
 m:Mx
 cp:Option Addr
 cc:Nat
 cs:List Cx
 deriving Inhabited
def Dx.csl (x:Dx):Value:=.slice x.cp x.cs.length x.cc
def Dx.dn (x:Dx):Dn:=⟨x.snap,x.stamp,x.out,x.m.mk',x.cs.map Cx.ch⟩
def encDx (x:Dx):List Value:=[.int .u64 x.snap,.int .u64 x.stamp,.bool x.out,x.m.ksl,x.m.rsl,x.csl]
def KDx:Kind Dx:=⟨177,6,encDx,fun _=>rfl,by decide,fun x u hu=>by simp [encDx,Mx.ksl,Mx.rsl,Dx.csl] at hu;rcases hu with rfl|rfl|rfl|rfl|rfl|rfl<;>rfl⟩
structure SzD (m:Mx) (cs:List Cx):Prop where
 keys:m.ks.length≤4398046510976
 rows:m.rs.length≤3518437208780
 terms:∀r∈m.rs,r.tm.length≤3518437208780
 chg:cs.length≤1466015503658
 copy:∀c∈cs,CopyX c.wo∧CopyX c.io
 kfit:∀k∈m.ks,FitKy12 k
 cfit:∀c∈cs,FitKy12 (c.a,c.b)
theorem SzD.len {m:Mx} {cs:List Cx} (h:SzD m cs):LenM m:=⟨by have:=h.keys;omega,by have:=h.rows;omega⟩
structure DIn (W:World) (x:Dx):Prop where
 mrk:MIn W x.m
 chg:ChgIn W x.csl x.cs
 sz:SzD x.m x.cs
 snap:0≤x.snap∧x.snap≤18446744073709551615
 stamp:0≤x.stamp∧x.stamp≤18446744073709551615
theorem DIn.on {W W':World} {x:Dx} (h:DIn W x) (hb:Below W.heap.size W W'):DIn W' x:=⟨h.mrk.on hb,h.chg.on hb,h.sz,h.snap,h.stamp⟩
def YTurn (Prg:Nat→World→(Nat→Prop)→Nat→Tk→Prop) (n0:Nat) (W:World) (B:Nat→Prop) (g:Nat) (t:Tk) (w':World):Prop:=∃B',Prg n0 w' B' g t∧Fr B W w'∧∀k,B' k→B k∨W.heap.size≤k
def BlkCx (x:Cx) (k:Nat):Prop:=BlkX (.slice x.wp x.wo.length x.wc) x.wo k∨BlkX (.slice x.ip x.io.length x.ic) x.io k
structure COwn (N:Nat) (W:World) (x:Cx):Prop where
 was:OwnJ N W (.slice x.wp x.wo.length x.wc) x.wo
 is:OwnJ N W (.slice x.ip x.io.length x.ic) x.io
 wfit:FitX x.wo
 ifit:FitX x.io
 apart:∀k,BlkX (.slice x.wp x.wo.length x.wc) x.wo k→¬ BlkX (.slice x.ip x.io.length x.ic) x.io k
 wcp:CopyX x.wo
 icp:CopyX x.io
structure DOwn (N:Nat) (W:World) (x:Dx):Prop where
 mrk:MOwn N W x.m
 row:KCx.Own N W x.csl x.cs
 each:∀c∈x.cs,COwn N W c
 apart:x.cs.Pairwise fun c d=>∀k,BlkCx c k→¬ BlkCx d k
def BlkD13 (x:Dx) (k:Nat):Prop:=x.m.ksl.ownBlock=some k∨x.m.rsl.ownBlock=some k∨(∃r∈x.m.rs,r.sl.ownBlock=some k)∨x.csl.ownBlock=some k∨∃c∈x.cs,BlkCx c k
end
section
def allB:Nat→List (List Bool)
 | 0=>[[]]
 | n+1=>(allB n).map (List.cons false)++(allB n).map (List.cons true)
theorem mem_allB:∀l:List Bool,l∈allB l.length
 | []=>by simp [allB]
 | false::r=>List.mem_append.2 (Or.inl (List.mem_map.2 ⟨r,mem_allB r,rfl⟩))
 | true::r=>List.mem_append.2 (Or.inr (List.mem_map.2 ⟨r,mem_allB r,rfl⟩))
def lstF (base:Array Bool) (L As:List Nat) (k:Nat) (fl:List Bool):Array Bool :=
 ((L.take k)++((As.zip fl).filter (·.2)).map (·.1)).foldl (fun l i=>l.setIfInBounds i true) base
def chkF (md:Region.Mode) (ops:Array Oper) (base:Array Bool) (L As:List Nat) (k:Nat) (fl:List Bool):Bool :=
 ((Region.ready md ops (lstF base L As k fl)).all fun i =>
  (decide (L[k]? = some i)&&decide ((lstF base L As k fl).setIfInBounds i true=lstF base L As (k+1) fl)) ||
  (List.range As.length).any fun j=>decide (As[j]? = some i)&&decide (fl[j]? = some false)&&decide ((lstF base L As k fl).setIfInBounds i true=lstF base L As k (fl.set j true))) &&
 (!(Region.ready md ops (lstF base L As k fl)).isEmpty||(decide (k=L.length)&&fl.all id))
theorem all_true:∀fl:List Bool,fl.all id=true→fl=List.replicate fl.length true
 | [],_=>rfl
 | b::r,h=>by
  simp only [List.all_cons,Bool.and_eq_true,id] at h
  rw [List.length_cons,List.replicate_succ,h.1,←all_true r h.2]
theorem count_set:∀(fl:List Bool) (j:Nat),fl[j]? = some false→(fl.set j true).count false+1=fl.count false
 | [],j,h=>by simp at h
 | b::r,0,h=>by
  simp at h
  subst h
  simp
 | b::r,j+1,h=>by
  have:=count_set r j (by simpa using h)
  simp only [List.set_cons_succ,List.count_cons]
  omega
section
variable {P:Program} {ops:Array Oper} {Q:Exit→Act→World→Prop} {md:Region.Mode} {S:World→Prop}
def StepF (P:Program) (ops:Array Oper) (Q:Exit→Act→World→Prop) (i:Nat) (R:Act→World→Prop) (a:Act) (w:World):Prop :=
 ∃o:Oper,ops[i]? = some o∧∀K':Act→World→Prop,Shut (∀a w,R a w→K' a w)→if Region.wanted o (yielded ops a.tmps)=true then Oper.wp P o a w K' Q else K' (a.put o.dst undef) w
theorem wpAnyH_float {base:Array Bool} (L As:List Nat) (R:Act→Nat→List Bool→Act→World→Prop) {a0:Act}
  (hchk:((List.range (L.length+1)).all fun k=>(allB As.length).all fun fl=>chkF md ops base L As k fl)=true)
  (hS:∀k fl a w,R a0 k fl a w→S w)
  (hmain:∀k i fl a w,L[k]? = some i→fl.length=As.length→i∈Region.ready md ops (lstF base L As k fl)→R a0 k fl a w→StepF P ops Q i (R a0 (k+1) fl) a w)
  (halloc:∀j i k fl a w,As[j]? = some i→k≤L.length→fl.length=As.length→fl[j]? = some false→R a0 k fl a w→StepF P ops Q i (R a0 k (fl.set j true)) a w)
  (hend:∀a w,R a0 L.length (List.replicate As.length true) a w→Q .normal a w) :
  ∀fuel k fl a w,L.length-k+fl.count false≤fuel→k≤L.length→fl.length=As.length→R a0 k fl a w→wpAnyH P md ops Q S fuel (lstF base L As k fl) a w:=by
 have hc:∀k fl,k≤L.length→fl.length=As.length→chkF md ops base L As k fl=true:=fun k fl hk hf=>by
  have h1:=List.all_eq_true.1 hchk k (List.mem_range.2 (by omega))
  exact List.all_eq_true.1 h1 fl (hf▸mem_allB fl)
 have hnil:∀k fl a w,k≤L.length→fl.length=As.length→R a0 k fl a w→Region.ready md ops (lstF base L As k fl)=[]→Q .normal a w:=fun k fl a w hk hf hR hr=>by
  have h:=hc k fl hk hf
  unfold chkF at h
  rw [hr] at h
  simp only [List.all_nil,List.isEmpty_nil,Bool.not_true,Bool.false_or,Bool.true_and,Bool.and_eq_true,decide_eq_true_eq] at h
  obtain ⟨rfl,h2⟩:=h
  have e:=all_true fl h2
  rw [hf] at e
  exact hend a w (e▸hR)
 have hsome:∀k fl,k≤L.length→fl.length=As.length→∀i∈Region.ready md ops (lstF base L As k fl),
   (L[k]? = some i∧(lstF base L As k fl).setIfInBounds i true=lstF base L As (k+1) fl)∨∃j,As[j]? = some i∧fl[j]? = some false∧(lstF base L As k fl).setIfInBounds i true=lstF base L As k (fl.set j true):=fun k fl hk hf i hi=>by
  have h:=hc k fl hk hf
  unfold chkF at h
  rw [Bool.and_eq_true] at h
  have h1:=List.all_eq_true.1 h.1 i hi
  rw [Bool.or_eq_true] at h1
  rcases h1 with h1|h1
  ·rw [Bool.and_eq_true] at h1
   exact Or.inl ⟨of_decide_eq_true h1.1,of_decide_eq_true h1.2⟩
  ·obtain ⟨j,_,h2⟩:=List.any_eq_true.1 h1
   rw [Bool.and_eq_true,Bool.and_eq_true] at h2
   exact Or.inr ⟨j,of_decide_eq_true h2.1.1,of_decide_eq_true h2.1.2,of_decide_eq_true h2.2⟩
 intro fuel
 induction fuel with
 | zero =>
  intro k fl a w hm hk hf hR
  have hr:Region.ready md ops (lstF base L As k fl)=[]:=by
   refine List.eq_nil_iff_forall_not_mem.2 fun i hi=>?_
   rcases hsome k fl hk hf i hi with ⟨h1,_⟩|⟨j,_,h2,_⟩
   ·have:=(List.getElem?_eq_some_iff.1 h1).1
    omega
   ·have:0<fl.count false:=List.count_pos_iff.2 (List.mem_of_getElem? h2)
    omega
  exact ⟨hr,hnil k fl a w hk hf hR hr⟩
 | succ fuel ih =>
  intro k fl a w hm hk hf hR
  refine ⟨hnil k fl a w hk hf hR,fun i hi=>?_⟩
  rcases hsome k fl hk hf i hi with ⟨h1,h2⟩|⟨j,h1,h2,h3⟩
  ·obtain ⟨o,ho,hstep⟩:=hmain k i fl a w h1 hf hi hR
   have hlt:=(List.getElem?_eq_some_iff.1 h1).1
   refine wpOp_step ho fun K' hK=>hstep K' fun a' w' hR'=>hK a' w' ⟨hS _ _ _ _ hR',?_⟩
   rw [h2]
   exact ih (k+1) fl a' w' (by omega) (by omega) hf hR'
  ·obtain ⟨o,ho,hstep⟩:=halloc j i k fl a w h1 hk hf h2 hR
   have hcs:=count_set fl j h2
   refine wpOp_step ho fun K' hK=>hstep K' fun a' w' hR'=>hK a' w' ⟨hS _ _ _ _ hR',?_⟩
   rw [h3]
   exact ih k (fl.set j true) a' w' (by omega) hk (by rw [List.length_set];exact hf) hR'
theorem lstF_start (base:Array Bool) (L As:List Nat) (n:Nat):lstF base L As 0 (List.replicate n false)=base:=by
 have h:((As.zip (List.replicate n false)).filter (·.2))=[]:=List.filter_eq_nil_iff.2 fun x hx=>by
  have:=(List.of_mem_zip (show (x.1,x.2)∈_ from hx)).2
  rw [(List.mem_replicate.1 this).2]
  simp
 unfold lstF
 rw [h]
 rfl
theorem wpAnyH_floats (L As:List Nat) (R:Act→Nat→List Bool→Act→World→Prop) {fuel:Nat} {listed:Array Bool} {a0:Act} {w:World}
  (hchk:((List.range (L.length+1)).all fun k=>(allB As.length).all fun fl=>chkF md ops listed L As k fl)=true) (hfuel:L.length+As.length≤fuel)
  (h0:R a0 0 (List.replicate As.length false) a0 w)
  (hS:∀k fl a w,R a0 k fl a w→S w)
  (hmain:∀k i fl a w,L[k]? = some i→fl.length=As.length→i∈Region.ready md ops (lstF listed L As k fl)→R a0 k fl a w→StepF P ops Q i (R a0 (k+1) fl) a w)
  (halloc:∀j i k fl a w,As[j]? = some i→k≤L.length→fl.length=As.length→fl[j]? = some false→R a0 k fl a w→StepF P ops Q i (R a0 k (fl.set j true)) a w)
  (hend:∀a w,R a0 L.length (List.replicate As.length true) a w→Q .normal a w):wpAnyH P md ops Q S fuel listed a0 w:=by
 have:=wpAnyH_float L As R hchk hS hmain halloc hend fuel 0 (List.replicate As.length false) a0 w (by rw [List.count_replicate];simp;omega) (Nat.zero_le _) (by simp) h0
 rwa [lstF_start] at this
end
def putS (a:Act) (l:List (Nat × Value)):Act:=l.foldl (fun a p=>a.put (some p.1) p.2) a
theorem put_self (a:Act) (i:Nat):a.put (some i) (a.tmps.getD i undef)=a:=by
 obtain ⟨t,d⟩:=a
 simp only [Act.put,Act.mk.injEq,and_true]
 refine Array.ext (by simp) fun j h1 h2=>?_
 rw [Array.getElem_setIfInBounds (by simpa using h1)]
 split
 ·rename_i e
  subst e
  simp [Array.getD,h2]
 ·rfl
theorem putS_self (a:Act):∀l:List Nat,putS a (l.map fun i=>(i,a.tmps.getD i undef))=a
 | []=>rfl
 | i::r=>by
  have:=putS_self a r
  unfold putS at *
  rw [List.map_cons,List.foldl_cons,put_self]
  exact this
theorem not_ready {md:Region.Mode} {ops:Array Oper} {l:Array Bool} {i:Nat} (h:i∈Region.ready md ops l) (hn:(Region.ready md ops l).contains i=false):False:=by
 rw [List.contains_eq_mem,decide_eq_false_iff_not] at hn
 exact hn h
end
section
open Go.RowKit
theorem kdx_at {w:World} {b off:Nat} {d:List Dx} (h:KDx.At w b off d) (i:Nat) (hi:i<d.length) :
  w.cell? ⟨b,off+i * 6,none⟩=some (.int .u64 (d[i]).snap)∧w.cell? ⟨b,off+i * 6+1,none⟩=some (.int .u64 (d[i]).stamp)∧w.cell? ⟨b,off+i * 6+2,none⟩=some (.bool (d[i]).out)∧w.cell? ⟨b,off+i * 6+3,none⟩=some (d[i]).m.ksl∧w.cell? ⟨b,off+i * 6+4,none⟩=some (d[i]).m.rsl∧w.cell? ⟨b,off+i * 6+5,none⟩=some (d[i]).csl :=
 ⟨h i hi 0 _ rfl,h i hi 1 _ rfl,h i hi 2 _ rfl,h i hi 3 _ rfl,h i hi 4 _ rfl,h i hi 5 _ rfl⟩
end
section
open Go.RowKit
theorem fit_same13 {o d:List Fx} (h:o.map Fx.fld=d.map Fx.fld) (hf:FitX d):FitX o :=
 fitX_of h (by have:=congrArg List.length h;simp at this;have h4:=hf.1;omega) fun f hf'=>by
  obtain ⟨y,hy,rfl⟩:=List.mem_map.1 hf'
  exact hf.2 y hy
theorem copyX_same13 {o d:List Fx} (h:o.map Fx.fld=d.map Fx.fld) (hc:CopyX d):CopyX o:=by
 refine ⟨?_,fun x hx=>?_⟩
 ·have:=congrArg List.length h
  rw [List.length_map,List.length_map] at this
  rw [this]
  exact hc.1
 ·have hm:x.fld∈d.map Fx.fld:=by rw [←h];exact List.mem_map_of_mem hx
  obtain ⟨y,hy,e⟩:=List.mem_map.1 hm
  have e2:y.txt=x.txt:=congrArg Prod.snd e
  rw [←e2]
  exact hc.2 y hy
def ChPost (W:World) (l:List Ch) (e:Ending) (w':World):Prop :=
 ∃p c cs,e=.returned (.slice p cs.length c)∧KCx.Own W.heap.size w' (.slice p cs.length c) cs∧(∀x∈cs,COwn W.heap.size w' x∧CopyX x.wo∧CopyX x.io∧∀b,BlkCx x b→¬ (Value.slice p cs.length c).ownBlock=some b)∧(cs.Pairwise fun c d=>∀k,BlkCx c k→¬ BlkCx d k)∧cs.map Cx.ch=l∧Below W.heap.size W w'
structure CcSt (W:World) (L:List Cx) (p:Option Addr) (c:Nat) (w:World):Prop where
 row:RowSt KCx W.heap.size W (.slice p L.length c) L w
 each:∀x∈L,COwn W.heap.size w x∧CopyX x.wo∧CopyX x.io∧∀b,BlkCx x b→¬ (Value.slice p L.length c).ownBlock=some b
 apart:L.Pairwise fun c d=>∀k,BlkCx c k→¬ BlkCx d k
theorem COwn.fr {N:Nat} {w w':World} {x:Cx} {P:Nat→Prop} (h:COwn N w x) (f:Fr P w w') (hP:∀k,BlkCx x k→¬ P k):COwn N w' x :=
 ⟨ownJ_fr h.was f fun k hk=>hP k (Or.inl hk),ownJ_fr h.is f fun k hk=>hP k (Or.inr hk),h.wfit,h.ifit,h.apart,h.wcp,h.icp⟩
theorem COwn.on {N:Nat} {w w':World} {x:Cx} (h:COwn N w x) (hb:Below w.heap.size w w'):COwn N w' x:=h.fr (P:=fun _=>False) (Fr.of_below hb) fun _ _ k=>k
theorem COwn.blk {N:Nat} {w:World} {x:Cx} (h:COwn N w x) (k:Nat) (hk:BlkCx x k):N≤k∧k<w.heap.size:=hk.elim (ownJ_blk h.was k) (ownJ_blk h.is k)
theorem COwn.weak {N M:Nat} {w:World} {x:Cx} (h:COwn N w x) (hM:M≤N):COwn M w x:=⟨own_weakJ h.was hM,own_weakJ h.is hM,h.wfit,h.ifit,h.apart,h.wcp,h.icp⟩
theorem COwn.inn {N:Nat} {w:World} {x:Cx} (h:COwn N w x):CIn w x:=⟨h.was.1.is,h.wfit,h.is.1.is,h.ifit,h.wcp,h.icp⟩
theorem CcSt.on {W:World} {L:List Cx} {p:Option Addr} {c:Nat} {w w':World} (h:CcSt W L p c w) (hb:Below w.heap.size w w'):CcSt W L p c w' :=
 ⟨h.row.on hb,fun x hx=>⟨(h.each x hx).1.on hb,(h.each x hx).2⟩,h.apart⟩
theorem CcSt.nil (W:World):CcSt W [] none 0 W:=⟨RowSt.nil KCx (Below.refl _ _) (Nat.le_refl _),(fun x hx=>by cases hx),List.Pairwise.nil⟩
theorem CcSt.push {W:World} {L:List Cx} {p:Option Addr} {c:Nat} {w w':World} {g c':Nat} {x:Cx} (h:CcSt W L p c w) (hx:COwn W.heap.size w x) (hcx:CopyX x.wo∧CopyX x.io) (hxo:∀b,BlkCx x b→¬ (Value.slice p L.length c).ownBlock=some b∧∀y∈L,¬ BlkCx y b)
  (hst:RowSt KCx W.heap.size W (.slice (some ⟨g,0,none⟩) (L.length+1) c') (L++[x]) w') (hg:w.grownBy w' (Value.slice p L.length c).ownBlock) (hn:(Value.slice p L.length c).ownBlock=some g∨g=w.heap.size):CcSt W (L++[x]) (some ⟨g,0,none⟩) c' w':=by
 have hlen:(L++[x]).length=L.length+1:=by simp
 have hf:Fr (fun b=>(Value.slice p L.length c).ownBlock=some b) w w':=Fr.of_grown hg fun k hk=>hk
 have hall:∀y∈L++[x],COwn W.heap.size w y∧CopyX y.wo∧CopyX y.io∧∀b,BlkCx y b→¬ (Value.slice p L.length c).ownBlock=some b:=fun y hy=>by
  rcases List.mem_append.1 hy with h1|h1
  ·exact h.each y h1
  ·rw [List.mem_singleton.1 h1]
   exact ⟨hx,hcx.1,hcx.2,fun b hb=>(hxo b hb).1⟩
 refine ⟨by rw [hlen];exact hst,fun y hy=>⟨(hall y hy).1.fr hf (hall y hy).2.2.2,(hall y hy).2.1,(hall y hy).2.2.1,fun b hb hb2=>?_⟩,?_⟩
 ·rw [hlen] at hb2
  have e:b=g:=by
   unfold Value.ownBlock at hb2
   simp at hb2
   omega
  subst e
  rcases hn with hn|hn
  ·exact (hall y hy).2.2.2 b hb hn
  ·have:=((hall y hy).1.blk b hb).2
   omega
 ·rw [List.pairwise_append]
  refine ⟨h.apart,List.pairwise_singleton _ _,fun y hy z hz k h1 h2=>?_⟩
  rw [List.mem_singleton] at hz
  subst hz
  exact (hxo k h2).2 y hy h1
structure ChSt13 (V:World) (G:Nat) (x:Cx) (k:Nat) (fl:List Bool) (t1 t2 t3 t4:Value) (w:World):Prop where
 fr:Fr (fun b=>b=G) V w
 box:w.heap[G]? = some (.cells #[.string x.a,.string x.b,.bool x.wl,if 3≤k then t2 else .slice x.wp x.wo.length x.wc,.bool x.il,if 4≤k then t4 else .slice x.ip x.io.length x.ic] 105 (0,0))
 f1:fl[0]? = some true→t1=.slice x.wp x.wo.length x.wc
 f2:fl[1]? = some true→t3=.slice x.ip x.io.length x.ic
 d1:1≤k→fl[0]? = some true
 d2:2≤k→fl[1]? = some true
 c1:1≤k→∃o,OwnJ V.heap.size w t2 o∧o.map Fx.fld=x.wo.map Fx.fld∧(2≤k→∃o',OwnJ V.heap.size w t4 o'∧o'.map Fx.fld=x.io.map Fx.fld∧∀b,BlkX t2 o b→¬ BlkX t4 o' b)
section
variable {V:World} {G:Nat} {x:Cx} {k:Nat} {fl:List Bool} {t1 t2 t3 t4:Value} {w:World}
theorem ch13_start (hb:V.heap[G]? = some (.cells #[.string x.a,.string x.b,.bool x.wl,.slice x.wp x.wo.length x.wc,.bool x.il,.slice x.ip x.io.length x.ic] 105 (0,0))) (t1 t2 t3 t4:Value):ChSt13 V G x 0 [false,false] t1 t2 t3 t4 V :=
 ⟨Fr.refl _ _,hb,(fun h=>by cases h),(fun h=>by cases h),(fun h=>by omega),(fun h=>by omega),(fun h=>by omega)⟩
theorem ch13_load1 {f2:Bool} (h:ChSt13 V G x 0 [false,f2] t1 t2 t3 t4 w):ChSt13 V G x 0 [true,f2] (.slice x.wp x.wo.length x.wc) t2 t3 t4 w :=
 ⟨h.fr,h.box,(fun _=>rfl),h.f2,(fun h=>by omega),(fun h=>by omega),(fun h=>by omega)⟩
theorem ch13_load2 {f1:Bool} (h:ChSt13 V G x k [f1,false] t1 t2 t3 t4 w):ChSt13 V G x k [f1,true] t1 t2 (.slice x.ip x.io.length x.ic) t4 w :=
 ⟨h.fr,h.box,h.f1,(fun _=>rfl),h.d1,(fun _=>rfl),h.c1⟩
theorem ch13_call1 {f2:Bool} {w':World} {u:Value} {o:List Fx} (h:ChSt13 V G x 0 [true,f2] t1 t2 t3 t4 w) (hG:G<V.heap.size) (hb:Below w.heap.size w w') (ho:OwnJ w.heap.size w' u o) (hm:o.map Fx.fld=x.wo.map Fx.fld):ChSt13 V G x 1 [true,f2] t1 u t3 t4 w' :=
 ⟨h.fr.then (Fr.of_below (P:=fun _=>False) hb) fun _ h=>h.elim,(hb.block G (by have:=h.fr.size;omega)).trans h.box,h.f1,h.f2,(fun _=>rfl),(fun h=>by omega),fun _=>⟨o,own_weakJ ho h.fr.size,hm,fun h=>by omega⟩⟩
theorem ch13_call2 {w':World} {u:Value} {o:List Fx} (h:ChSt13 V G x 1 [true,true] t1 t2 t3 t4 w) (hG:G<V.heap.size) (hb:Below w.heap.size w w') (ho:OwnJ w.heap.size w' u o) (hm:o.map Fx.fld=x.io.map Fx.fld):ChSt13 V G x 2 [true,true] t1 t2 t3 u w':=by
 obtain ⟨o1,h1,h2,_⟩:=h.c1 (Nat.le_refl _)
 refine ⟨h.fr.then (Fr.of_below (P:=fun _=>False) hb) fun _ h=>h.elim,(hb.block G (by have:=h.fr.size;omega)).trans h.box,h.f1,h.f2,(fun _=>rfl),(fun _=>rfl),fun _=>⟨o1,ownJ_fr h1 (Fr.of_below (P:=fun _=>False) hb) fun _ _ k=>k,h2,fun _=>⟨o,own_weakJ ho h.fr.size,hm,fun b hb1 hb2=>?_⟩⟩⟩
 have q1:=(ownJ_blk h1 b hb1).2
 have q2:=(ownJ_blk ho b hb2).1
 omega
theorem ch13_own {w':World} (hf:Fr (fun b=>b=G) w w') (hG:G<V.heap.size) (h:∃o,OwnJ V.heap.size w t2 o∧o.map Fx.fld=x.wo.map Fx.fld∧(2≤k→∃o',OwnJ V.heap.size w t4 o'∧o'.map Fx.fld=x.io.map Fx.fld∧∀b,BlkX t2 o b→¬ BlkX t4 o' b)) (hk:2≤k) :
  ∃o,OwnJ V.heap.size w' t2 o∧o.map Fx.fld=x.wo.map Fx.fld∧∃o',OwnJ V.heap.size w' t4 o'∧o'.map Fx.fld=x.io.map Fx.fld∧∀b,BlkX t2 o b→¬ BlkX t4 o' b:=by
 obtain ⟨o,h1,h2,h3⟩:=h
 obtain ⟨o',h4,h5,h6⟩:=h3 hk
 exact ⟨o,ownJ_fr h1 hf fun b hb e=>by have:=(ownJ_blk h1 b hb).1;omega,h2,o',ownJ_fr h4 hf fun b hb e=>by have:=(ownJ_blk h4 b hb).1;omega,h5,h6⟩
theorem fr_set (w:World) (G j:Nat) (u:Value):Fr (fun b=>b=G) w (w.setCell ⟨G,j,none⟩ u):=by
 have hb:Below G w (w.setCell ⟨G,j,none⟩ u):=(Below.refl G w).setCell (Nat.le_refl _) _
 exact ⟨hb.os,hb.tape,hb.output,hb.size,fun k _ hn=>heap_setCell_other _ _ k _ hn⟩
theorem ch13_store1 (h:ChSt13 V G x 2 [true,true] t1 t2 t3 t4 w) (hG:G<V.heap.size):ChSt13 V G x 3 [true,true] t1 t2 t3 t4 (w.setCell ⟨G,3,none⟩ t2):=by
 obtain ⟨o,h1,h2,o',h3⟩:=ch13_own (k:=2) (fr_set w G 3 t2) hG (h.c1 (by omega)) (Nat.le_refl _)
 exact ⟨h.fr.then (fr_set w G 3 t2) fun _ h=>Or.inl h,heap_setCell_same _ G _ _ _ _ h.box,h.f1,h.f2,(fun _=>rfl),(fun _=>rfl),fun _=>⟨o,h1,h2,fun _=>⟨o',h3⟩⟩⟩
theorem ch13_store2 (h:ChSt13 V G x 3 [true,true] t1 t2 t3 t4 w) (hG:G<V.heap.size):ChSt13 V G x 4 [true,true] t1 t2 t3 t4 (w.setCell ⟨G,5,none⟩ t4):=by
 obtain ⟨o,h1,h2,o',h3⟩:=ch13_own (k:=3) (fr_set w G 5 t4) hG (h.c1 (by omega)) (by omega)
 exact ⟨h.fr.then (fr_set w G 5 t4) fun _ h=>Or.inl h,heap_setCell_same _ G _ _ _ _ h.box,h.f1,h.f2,(fun _=>rfl),(fun _=>rfl),fun _=>⟨o,h1,h2,fun _=>⟨o',h3⟩⟩⟩
end
end
section
open Go.RowKit
theorem Tryz.infoCx13:(Tryz.prog.info? 105).map (fun i=>(i.zero,i.size,i.bytes))=some (some (.agg #[.string ⟨#[]⟩,.string ⟨#[]⟩,.bool false,.slice none 0 0,.bool false,.slice none 0 0]),6,96):=by kernel_rfl
def kk13:Nat→Nat
 | 0=>0
 | 1=>1
 | 2=>2
 | 3=>3
 | 4=>3
 | _+5=>4
end
section
open Go.RowKit
theorem slice_own {g n c k:Nat} (hk:(Value.slice (some ⟨g,0,none⟩) n c).ownBlock=some k):k=g:=by
 have h1:(Value.slice (some ⟨g,0,none⟩) n c).ownBlock=some g∨(Value.slice (some ⟨g,0,none⟩) n c).ownBlock=none:=by
  unfold Value.ownBlock
  simp
 rcases h1 with h1|h1
 ·rw [h1] at hk;injection hk with hk;exact hk.symm
 ·rw [h1] at hk;cases hk
theorem wp_push {P:Program} {α:Type} {w:World} {o:Oper} {a:Act} {Q:Exit→Act→World→Prop} {Kx:Act→World→Prop} (K:Kind α) (hgd:o.guard=none) (s x:Operand) (t:TypeId) (ho:o.op=.call { callee:=.builtin .append,args:=#[s,x],argTypes:=#[t,t] })
  (i:TypeInfo) (z:Value) (bytes:Nat) (ht:P.underlying t=some (.slice K.T)) (hi:P.info? K.T=some i) (hz:i.zero=some z) (hsize:i.size=K.k) (hby:i.bytes=bytes) (hzs:z.cells.size=K.k)
  (N:Nat) (W:World) (v:Value) (l:List α) (hs:a.eval s=v) (hst:RowSt K N W v l w) (y:α) (B m c:Nat) (hm:m=1) (hx:a.eval x=.slice (some ⟨B,0,none⟩) m c) (te:TypeId) (fz:Nat × Nat) (hB:w.heap[B]? = some (.cells (K.enc y).toArray te fz))
  (hlen:l.length+1≤maxLen) (hbytes:(l.length+1) * bytes≤140737488355328)
  (h:∀g cap w',RowSt K N W (.slice (some ⟨g,0,none⟩) (l.length+1) cap) (l++[y]) w'→w.grownBy w' v.ownBlock→(v.ownBlock=some g∨g=w.heap.size)→Kx (a.put o.dst (.slice (some ⟨g,0,none⟩) (l.length+1) cap)) w') :
  Oper.wp P o a w Kx Q:=by
 have:=step_push (ops:=#[]) (E:=True) (Q:=Q) K hgd s x t ho i z bytes ht hi hz hsize hby hzs N W v l hs hst y B m c hm hx te fz hB hlen hbytes h
 rwa [if_pos (by unfold Region.wanted;rw [hgd])] at this
end
section
open Go.RowKit
structure PbAt {α:Type} (K:Kind α) (T:TypeId) (N:Nat) (W:World) (x:α) (l:List α) (v:Value) (G f:Nat) (c:Array Value) (TG:TypeId) (w0:World) (k:Nat) (fl:List Bool) (u s p:Value) (w:World) (Z:Nat):Prop where
 row:RowSt K N W (if 1≤k then p else v) (if 1≤k then l++[x] else l) w
 ld:fl[0]? = some true→u=v
 bx:fl[1]? = some true→s=.slice (some ⟨Z,0,none⟩) 1 1∧(k=0→w.heap[Z]? = some (.cells (K.enc x).toArray T (0,0)))
 box:w.heap[G]? = some (.cells (if 3≤k then c.setIfInBounds f p else c) TG (0,0))
 own:1≤k→∀b,p.ownBlock=some b→v.ownBlock=some b∨w0.heap.size≤b
 fr:Fr (fun b=>b=G∨v.ownBlock=some b) w0 w
def Pb {α:Type} (K:Kind α) (T:TypeId) (N:Nat) (W:World) (x:α) (l:List α) (v:Value) (G f:Nat) (c:Array Value) (TG:TypeId) (w0:World) (k:Nat) (fl:List Bool) (u s p:Value) (w:World):Prop:=∃Z,PbAt K T N W x l v G f c TG w0 k fl u s p w Z
section
variable {α:Type} {K:Kind α} {T:TypeId} {N:Nat} {W:World} {x:α} {l:List α} {v:Value} {G f:Nat} {c:Array Value} {TG:TypeId} {w0:World} {k:Nat} {fl:List Bool} {u s p:Value} {w:World}
theorem pb_start (u s p:Value) (h:RowSt K N W v l w) (hG:w.heap[G]? = some (.cells c TG (0,0))):Pb K T N W x l v G f c TG w 0 [false,false] u s p w :=
 ⟨0,h,(fun e=>by cases e),(fun e=>by cases e),hG,(fun e=>by omega),Fr.refl _ _⟩
theorem pb_fr (h:Pb K T N W x l v G f c TG w0 k fl u s p w):Fr (fun b=>b=G∨v.ownBlock=some b) w0 w:=by
 obtain ⟨Z,h⟩:=h
 exact h.fr
theorem pb_load {f2:Bool} (h:Pb K T N W x l v G f c TG w0 k [false,f2] u s p w) (hk:k≤2):w.heap[G]? = some (.cells c TG (0,0))∧Pb K T N W x l v G f c TG w0 k [true,f2] v s p w:=by
 obtain ⟨Z,h⟩:=h
 have hb:=h.box
 rw [if_neg (by omega)] at hb
 exact ⟨hb,Z,h.row,(fun _=>rfl),h.bx,h.box,h.own,h.fr⟩
theorem pb_box {f1:Bool} (h:Pb K T N W x l v G f c TG w0 k [f1,false] u s p w):Pb K T N W x l v G f c TG w0 k [f1,true] u (.slice (some ⟨w.heap.size,0,none⟩) 1 1) p (w.alloc (.cells (K.enc x).toArray T)):=by
 obtain ⟨Z,h⟩:=h
 have hal:Below w.heap.size w (w.alloc (.cells (K.enc x).toArray T)):=(Below.refl _ _).alloc (Nat.le_refl _) _
 exact ⟨w.heap.size,h.row.on hal,h.ld,(fun _=>⟨rfl,fun _=>heap_alloc_new w _⟩),(hal.block G (Array.getElem?_eq_some_iff.1 h.box).1).trans h.box,h.own,h.fr.then (Fr.of_below hal) fun b hb=>Or.inl hb⟩
theorem pb_row (h:Pb K T N W x l v G f c TG w0 0 [true,true] u s p w):∃Z,u=v∧s=.slice (some ⟨Z,0,none⟩) 1 1∧w.heap[Z]? = some (.cells (K.enc x).toArray T (0,0))∧RowSt K N W v l w:=by
 obtain ⟨Z,h⟩:=h
 exact ⟨Z,h.ld rfl,(h.bx rfl).1,(h.bx rfl).2 rfl,h.row⟩
theorem pb_push {g cap:Nat} {w':World} (h:Pb K T N W x l v G f c TG w0 0 [true,true] u s p w) (hG:∀b,v.ownBlock=some b→b≠G) (hst:RowSt K N W (.slice (some ⟨g,0,none⟩) (l.length+1) cap) (l++[x]) w') (hg:w.grownBy w' v.ownBlock) (hat:v.ownBlock=some g∨g=w.heap.size):Pb K T N W x l v G f c TG w0 1 [true,true] u s (.slice (some ⟨g,0,none⟩) (l.length+1) cap) w':=by
 obtain ⟨Z,h⟩:=h
 have hb:w.heap[G]? = some (.cells c TG (0,0)):=h.box
 refine ⟨Z,hst,h.ld,(fun _=>⟨(h.bx rfl).1,fun e=>by omega⟩),(hg.block G (Array.getElem?_eq_some_iff.1 hb).1 (fun e=>hG G e.symm rfl)).trans hb,(fun _ b hb=>?_),h.fr.then (Fr.of_grown hg fun k hk=>hk) fun b hb=>Or.inl (Or.inr hb)⟩
 rw [slice_own hb]
 rcases hat with h1|h1
 ·exact Or.inl h1
 ·exact Or.inr (by have:=h.fr.size;omega)
theorem pb_on (h:Pb K T N W x l v G f c TG w0 1 fl u s p w):Pb K T N W x l v G f c TG w0 2 fl u s p w:=by
 obtain ⟨Z,h⟩:=h
 exact ⟨Z,h.row,h.ld,(fun e=>⟨(h.bx e).1,fun e=>by omega⟩),h.box,(fun _=>h.own (by omega)),h.fr⟩
theorem pb_store (h:Pb K T N W x l v G f c TG w0 2 fl u s p w) (hNG:N≤G) (hG:∀b,p.ownBlock=some b→b≠G):w.heap[G]? = some (.cells c TG (0,0))∧Pb K T N W x l v G f c TG w0 3 fl u s p (w.setCell ⟨G,f,none⟩ p):=by
 obtain ⟨Z,h⟩:=h
 have hb:w.heap[G]? = some (.cells c TG (0,0)):=h.box
 have hr:RowSt K N W p (l++[x]) w:=h.row
 have hf:Fr (fun b=>b=G) w (w.setCell ⟨G,f,none⟩ p):=⟨rfl,rfl,rfl,by simp,fun k _ hn=>heap_setCell_other _ _ k _ hn⟩
 have hf':=h.fr.then (hf.mono (Q:=fun b=>b=G∨v.ownBlock=some b) fun b hb=>Or.inl hb) fun b hb=>Or.inl hb
 refine ⟨hb,Z,⟨hf.row (show w.ownsRow N K.T K.k p (l++[x]).length (K.cells (l++[x])) from hr.own) fun b h1 h2=>hG b h1 h2,hr.bel.trans (hf.below hr.base fun b hb=>by omega),by simpa using hr.base⟩,h.ld,(fun e=>⟨(h.bx e).1,fun e=>by omega⟩),heap_setCell_same _ G f _ _ _ hb,(fun _=>h.own (by omega)),hf'⟩
theorem pb_shape (h:Pb K T N W x l v G f c TG w0 k fl u s p w) (hk:1≤k):∃pp cc,p=.slice pp (l.length+1) cc:=by
 obtain ⟨Z,h⟩:=h
 have hr:=h.row.own
 rw [if_pos hk,if_pos hk] at hr
 obtain ⟨pp,cc,e⟩:=Kind.own_shape hr
 exact ⟨pp,cc,by rw [e,List.length_append];rfl⟩
theorem pb_shape2 (h:Pb K T N W x l v G f c TG w0 k fl u s p w) (hk:1≤k):∃g cc,p=.slice (some ⟨g,0,none⟩) (l.length+1) cc:=by
 obtain ⟨Z,h⟩:=h
 have hr:=h.row.own
 rw [if_pos hk,if_pos hk] at hr
 have h1:w.ownsRow N K.T K.k p (l++[x]).length (K.cells (l++[x])):=hr
 rcases h1.2 with ⟨_,h2⟩|⟨g,cap,cur,h2,_⟩
 ·simp at h2
 ·exact ⟨g,cap,by rw [h2,List.length_append];rfl⟩
theorem pb_off (h:Pb K T N W x l v G f c TG w0 k fl u s p w) (hk:1≤k) (hG:∀b,v.ownBlock=some b→b≠G) (hlt:G<w0.heap.size):∀b,p.ownBlock=some b→b≠G:=fun b hb=>by
 obtain ⟨Z,h⟩:=h
 rcases h.own hk b hb with h1|h1
 ·exact hG b h1
 ·omega
theorem pb_end (h:Pb K T N W x l v G f c TG w0 3 fl u s p w):RowSt K N W p (l++[x]) w∧w.heap[G]? = some (.cells (c.setIfInBounds f p) TG (0,0))∧Fr (fun b=>b=G∨v.ownBlock=some b) w0 w∧∀b,p.ownBlock=some b→v.ownBlock=some b∨w0.heap.size≤b:=by
 obtain ⟨Z,h⟩:=h
 exact ⟨h.row,h.box,h.fr,h.own (by omega)⟩
end
end
section
open Go.RowKit
theorem SzD.same {m m':Mx} {cs cs':List Cx} (h:SzD m cs) (hm:m'.mk'=m.mk') (hc:cs'.map Cx.ch=cs.map Cx.ch) (hcp:∀x∈cs',CopyX x.wo∧CopyX x.io):SzD m' cs':=by
 have h1:m'.ks=m.ks:=congrArg Prod.fst hm
 have h2:m'.rs.map Rx.rg=m.rs.map Rx.rg:=congrArg Prod.snd hm
 have h3:m'.rs.length=m.rs.length:=by have:=congrArg List.length h2;simpa using this
 have h4:cs'.length=cs.length:=by have:=congrArg List.length hc;simpa using this
 refine ⟨by rw [h1];exact h.keys,by rw [h3];exact h.rows,fun r hr=>?_,by rw [h4];exact h.chg,hcp,by rw [h1];exact h.kfit,fun c hc'=>?_⟩
 ·have:r.rg∈m.rs.map Rx.rg:=by rw [←h2];exact List.mem_map_of_mem hr
  obtain ⟨r',hr',e⟩:=List.mem_map.1 this
  have e2:r'.tm=r.tm:=congrArg Prod.snd e
  rw [←e2]
  exact h.terms r' hr'
 ·have:c.ch∈cs.map Cx.ch:=by rw [←hc];exact List.mem_map_of_mem hc'
  obtain ⟨c',hc2,e⟩:=List.mem_map.1 this
  have e2:(c'.a,c'.b)=(c.a,c.b):=congrArg Ch.key e
  rw [←e2]
  exact h.cfit c' hc2
theorem DOwn.fr {N:Nat} {w w':World} {x:Dx} {P:Nat→Prop} (h:DOwn N w x) (f:Fr P w w') (hP:∀k,P k→k<N):DOwn N w' x :=
 ⟨h.mrk.fr f hP,f.row (show w.ownsRow N KCx.T KCx.k x.csl x.cs.length (KCx.cells x.cs) from h.row) fun k hk hp=>by
  have h1:=(World.ownsRow.lt (show w.ownsRow N KCx.T KCx.k x.csl x.cs.length (KCx.cells x.cs) from h.row) k hk).1
  have h2:=hP k hp
  omega,fun c hc=>(h.each c hc).fr f fun k hk hp=>by
  have h1:=((h.each c hc).blk k hk).1
  have h2:=hP k hp
  omega,h.apart⟩
theorem MOwn.weak {N M:Nat} {W:World} {m:Mx} (h:MOwn N W m) (hM:M≤N):MOwn M W m:=⟨Kind.own_weak h.keys hM,Kind.own_weak h.rows hM,fun r hr=>⟨Kind.own_weak (h.each r hr).1 hM,(h.each r hr).2⟩,h.apart⟩
theorem DOwn.weak {N M:Nat} {w:World} {x:Dx} (h:DOwn N w x) (hM:M≤N):DOwn M w x:=⟨h.mrk.weak hM,Kind.own_weak h.row hM,fun c hc=>(h.each c hc).weak hM,h.apart⟩
theorem DOwn.inn {N:Nat} {w:World} {x:Dx} (h:DOwn N w x):MIn w x.m∧ChgIn w x.csl x.cs:=⟨h.mrk.inn,Kind.own_is h.row,fun c hc=>(h.each c hc).inn⟩
end
section
open Go.RowKit
theorem Tryz.infoDx13:(Tryz.prog.info? 177).map (fun i=>(i.zero,i.size,i.bytes))=some (some (.agg #[.int .u64 0,.int .u64 0,.bool false,.slice none 0 0,.slice none 0 0,.slice none 0 0]),6,96):=by kernel_rfl
theorem DOwn.frB {N:Nat} {w w':World} {x:Dx} {P:Nat→Prop} (h:DOwn N w x) (f:Fr P w w') (hP:∀k,BlkD13 x k→¬ P k):DOwn N w' x :=
 ⟨⟨f.row (show w.ownsRow N KK.T KK.k x.m.ksl x.m.ks.length (KK.cells x.m.ks) from h.mrk.keys) fun k hk=>hP k (Or.inl hk),
  f.row (show w.ownsRow N KRx.T KRx.k x.m.rsl x.m.rs.length (KRx.cells x.m.rs) from h.mrk.rows) fun k hk=>hP k (Or.inr (Or.inl hk)),
  fun r hr=>⟨f.row (show w.ownsRow N KM.T KM.k r.sl r.tm.length (KM.cells r.tm) from (h.mrk.each r hr).1) fun k hk=>hP k (Or.inr (Or.inr (Or.inl ⟨r,hr,hk⟩))),(h.mrk.each r hr).2⟩,h.mrk.apart⟩,
  f.row (show w.ownsRow N KCx.T KCx.k x.csl x.cs.length (KCx.cells x.cs) from h.row) fun k hk=>hP k (Or.inr (Or.inr (Or.inr (Or.inl hk)))),
  fun c hc=>(h.each c hc).fr f fun k hk=>hP k (Or.inr (Or.inr (Or.inr (Or.inr ⟨c,hc,hk⟩)))),h.apart⟩
theorem DOwn.blk {N:Nat} {w:World} {x:Dx} (h:DOwn N w x) (k:Nat) (hk:BlkD13 x k):N≤k∧k<w.heap.size:=by
 rcases hk with hk|hk|⟨r,hr,hk⟩|hk|⟨c,hc,hk⟩
 ·exact World.ownsRow.lt (show w.ownsRow N KK.T KK.k x.m.ksl x.m.ks.length (KK.cells x.m.ks) from h.mrk.keys) k hk
 ·exact World.ownsRow.lt (show w.ownsRow N KRx.T KRx.k x.m.rsl x.m.rs.length (KRx.cells x.m.rs) from h.mrk.rows) k hk
 ·exact World.ownsRow.lt (show w.ownsRow N KM.T KM.k r.sl r.tm.length (KM.cells r.tm) from (h.mrk.each r hr).1) k hk
 ·exact World.ownsRow.lt (show w.ownsRow N KCx.T KCx.k x.csl x.cs.length (KCx.cells x.cs) from h.row) k hk
 ·exact (h.each c hc).blk k hk
end
section
open Go.RowKit
structure RgSt (N:Nat) (W:World) (v:Value) (L:List Rx) (w:World):Prop where
 row:RowSt KRx N W v L w
 each:∀r∈L,KM.Own N w r.sl r.tm∧FitP r.tm
 apart:ApartR L
theorem ty_mr:KM.T≠KRx.T:=by decide
section
variable {N:Nat} {W:World} {v:Value} {L:List Rx} {w:World}
theorem RgSt.nil (hb:Below N W w) (hN:N≤w.heap.size):RgSt N W (.slice none 0 0) [] w:=⟨RowSt.nil KRx hb hN,(fun _ h=>by cases h),List.Pairwise.nil⟩
theorem RgSt.on {w':World} (h:RgSt N W v L w) (hb:Below w.heap.size w w'):RgSt N W v L w':=⟨h.row.on hb,fun r hr=>⟨Kind.own_on (h.each r hr).1 hb,(h.each r hr).2⟩,h.apart⟩
theorem RgSt.fresh {w':World} {x:Rx} (h:RgSt N W v L w) (hx:KM.Own w.heap.size w' x.sl x.tm):∀r∈L,∀k,r.sl.ownBlock=some k→¬ x.sl.ownBlock=some k:=fun r hr k h1 h2=>by
 have q1:=(World.ownsRow.lt (show w.ownsRow N KM.T KM.k r.sl r.tm.length (KM.cells r.tm) from (h.each r hr).1) k h1).2
 have q2:=(World.ownsRow.lt (show w'.ownsRow w.heap.size KM.T KM.k x.sl x.tm.length (KM.cells x.tm) from hx) k h2).1
 omega
theorem RgSt.push {w':World} {g c:Nat} {x:Rx} (h:RgSt N W v L w) (hx:KM.Own N w x.sl x.tm) (hf:FitP x.tm) (hfr:∀r∈L,∀k,r.sl.ownBlock=some k→¬ x.sl.ownBlock=some k)
  (hst:RowSt KRx N W (.slice (some ⟨g,0,none⟩) (L.length+1) c) (L++[x]) w') (hg:w.grownBy w' v.ownBlock):RgSt N W (.slice (some ⟨g,0,none⟩) (L.length+1) c) (L++[x]) w':=by
 refine ⟨hst,fun r hr=>?_,?_⟩
 ·have:KM.Own N w r.sl r.tm∧FitP r.tm:=by
   rcases List.mem_append.1 hr with h1|h1
   ·exact h.each r h1
   ·rw [List.mem_singleton.1 h1]
    exact ⟨hx,hf⟩
  exact ⟨own_else (show w.ownsRow N KM.T KM.k r.sl r.tm.length (KM.cells r.tm) from this.1) (show w.ownsRow N KRx.T KRx.k v L.length (KRx.cells L) from h.row.own) ty_mr hg,this.2⟩
 ·rw [ApartR,List.pairwise_append]
  refine ⟨h.apart,List.pairwise_singleton _ _,fun r hr y hy=>?_⟩
  rw [List.mem_singleton.1 hy]
  exact hfr r hr
end
def RgPost (W:World) (l:List Rg) (e:Ending) (w':World):Prop :=
 ∃p c L,e=.returned (.slice p L.length c)∧RgSt W.heap.size W (.slice p L.length c) L w'∧L.map Rx.rg=l
theorem sortK_append (a b:List Ky):sortK (a++b)=b.foldl (fun acc x=>insR ltKy x acc) (sortK a):=by
 unfold sortK
 rw [List.foldl_append]
theorem sortK_snoc (a:List Ky) (k:Ky):sortK (a++[k])=insR ltKy k (sortK a):=by
 rw [sortK_append]
 rfl
end
section
open Go.RowKit Go.Lib
structure MadeK (α:Type) where
 E:Nat→World→α→Prop
 Blk:α→Nat→Prop
 fr:∀{N:Nat} {w w':World} {x:α} {P:Nat→Prop},E N w x→Fr P w w'→(∀k,Blk x k→¬ P k)→E N w' x
 blk:∀{N:Nat} {w:World} {x:α},E N w x→∀k,Blk x k→N≤k∧k<w.heap.size
 weak:∀{N M:Nat} {w:World} {x:α},E N w x→M≤N→E M w x
theorem MadeK.on {α:Type} {Q:MadeK α} {N:Nat} {w w':World} {x:α} (h:Q.E N w x) (hb:Below w.heap.size w w'):Q.E N w' x:=Q.fr (P:=fun _=>False) h (Fr.of_below hb) fun _ _ k=>k
structure EachSt {α:Type} (K:Kind α) (Q:MadeK α) (W:World) (L:List α) (p:Option Addr) (c:Nat) (w:World):Prop where
 row:RowSt K W.heap.size W (.slice p L.length c) L w
 each:∀x∈L,Q.E W.heap.size w x∧∀b,Q.Blk x b→¬ (Value.slice p L.length c).ownBlock=some b
 apart:L.Pairwise fun c d=>∀k,Q.Blk c k→¬ Q.Blk d k
section
variable {α:Type} {K:Kind α} {Q:MadeK α} {W:World} {L:List α} {p:Option Addr} {c:Nat} {w:World}
theorem EachSt.on {w':World} (h:EachSt K Q W L p c w) (hb:Below w.heap.size w w'):EachSt K Q W L p c w' :=
 ⟨h.row.on hb,fun x hx=>⟨MadeK.on (h.each x hx).1 hb,(h.each x hx).2⟩,h.apart⟩
theorem EachSt.start (h:RowSt K W.heap.size W (.slice p 0 c) [] w):EachSt K Q W [] p c w:=⟨h,(fun x hx=>by cases hx),List.Pairwise.nil⟩
theorem EachSt.fresh {w':World} {x:α} (h:EachSt K Q W L p c w) (hx:Q.E w.heap.size w' x):∀b,Q.Blk x b→¬ (Value.slice p L.length c).ownBlock=some b∧∀y∈L,¬ Q.Blk y b:=fun b hb=>by
 have h1:=(Q.blk hx b hb).1
 refine ⟨fun h2=>?_,fun y hy h2=>?_⟩
 ·have:=(World.ownsRow.lt (show w.ownsRow W.heap.size K.T K.k (.slice p L.length c) L.length (K.cells L) from h.row.own) b h2).2
  omega
 ·have:=(Q.blk (h.each y hy).1 b h2).2
  omega
theorem EachSt.push {w':World} {g c':Nat} {x:α} (h:EachSt K Q W L p c w) (hx:Q.E W.heap.size w x) (hxo:∀b,Q.Blk x b→¬ (Value.slice p L.length c).ownBlock=some b∧∀y∈L,¬ Q.Blk y b)
  (hst:RowSt K W.heap.size W (.slice (some ⟨g,0,none⟩) (L.length+1) c') (L++[x]) w') (hg:w.grownBy w' (Value.slice p L.length c).ownBlock) (hn:(Value.slice p L.length c).ownBlock=some g∨g=w.heap.size):EachSt K Q W (L++[x]) (some ⟨g,0,none⟩) c' w':=by
 have hlen:(L++[x]).length=L.length+1:=by simp
 have hf:Fr (fun b=>(Value.slice p L.length c).ownBlock=some b) w w':=Fr.of_grown hg fun k hk=>hk
 have hall:∀y∈L++[x],Q.E W.heap.size w y∧∀b,Q.Blk y b→¬ (Value.slice p L.length c).ownBlock=some b:=fun y hy=>by
  rcases List.mem_append.1 hy with h1|h1
  ·exact h.each y h1
  ·rw [List.mem_singleton.1 h1]
   exact ⟨hx,fun b hb=>(hxo b hb).1⟩
 refine ⟨by rw [hlen];exact hst,fun y hy=>⟨Q.fr (hall y hy).1 hf (hall y hy).2,fun b hb hb2=>?_⟩,?_⟩
 ·rw [hlen] at hb2
  have e:b=g:=by
   unfold Value.ownBlock at hb2
   simp at hb2
   omega
  subst e
  rcases hn with hn|hn
  ·exact (hall y hy).2 b hb hn
  ·have:=(Q.blk (hall y hy).1 b hb).2
   omega
 ·rw [List.pairwise_append]
  refine ⟨h.apart,List.pairwise_singleton _ _,fun y hy z hz k h1 h2=>?_⟩
  rw [List.mem_singleton] at hz
  subst hz
  exact (hxo k h2).2 y hy h1
end
def EachPost {α β:Type} (K:Kind α) (Q:MadeK α) (key:α→β) (W:World) (l:List β) (e:Ending) (w':World):Prop :=
 ∃p c L,e=.returned (.slice p L.length c)∧EachSt K Q W L p c w'∧L.map key=l
def MadePost {α β:Type} (K:Kind α) (Q:MadeK α) (key:α→β) (W:World) (l:β) (e:Ending) (w':World):Prop :=
 ∃y:α,e=.returned (.agg (K.enc y).toArray)∧Q.E W.heap.size w' y∧key y=l∧Below W.heap.size W w'
theorem make_row {P:Program} {α:Type} (K:Kind α) (W:World) (t:TypeId) (i:TypeInfo) (z:Value) (bytes:Nat) (ht:P.underlying t=some (.slice K.T)) (hi:P.info? K.T=some i) (hz:i.zero=some z) (hsize:i.size=K.k) (hby:i.bytes=bytes) (n:Nat)
  (hn:n≤maxLen) (hb:n * bytes≤140737488355328) :
  ∃W',(Instr.makeSlice t (.int .i64 0) (.int .i64 (n:Int))).run P W=.ok (.slice (some ⟨W.heap.size,0,none⟩) 0 n) W'∧RowSt K W.heap.size W (.slice (some ⟨W.heap.size,0,none⟩) 0 n) [] W':=by
 obtain ⟨W',h1,h2,h3⟩:=run_make_own (P:=P) W W.heap.size t K.T i z K.k ht hi hz hsize .i64 .i64 n (by rw [hby,Nat.mul_comm];omega) hn (Nat.le_refl _)
 refine ⟨W',h1,h2,?_,h3.size⟩
 exact (Fr.of_grown (P:=fun _=>False) h3 fun k hk=>by cases hk).below (Nat.le_refl _) fun k hk=>hk.elim
end
section
open Go.RowKit
def KX13:Kind Fx:=⟨131,2,encX,fun _=>rfl,by decide,fun x u hu=>by simp [encX,Fx.sl] at hu;rcases hu with rfl|rfl<;>rfl⟩
theorem kx13_at {w:World} {b off:Nat} {d:List Fx} (h:KX13.At w b off d) (i:Nat) (hi:i<d.length):w.cell? ⟨b,off+i * 2,none⟩=some (.string (d[i]).name)∧w.cell? ⟨b,off+i * 2+1,none⟩=some (d[i]).sl :=
 ⟨h i hi 0 _ rfl,h i hi 1 _ rfl⟩
theorem infoRx13:(Tryz.prog.info? 125).map (fun i=>(i.zero,i.size,i.bytes))=some (some (.agg #[.string ⟨#[]⟩,.slice none 0 0]),2,40):=by kernel_rfl
set_option maxHeartbeats 4000000 in
set_option maxRecDepth 100000 in
theorem eachF_any {β:Type} (Q:MadeK Fx) (key:Fx→β) (k:Nat) (eg:∀args w,(callFunc k args).run Tryz.prog w=.ok (.enter k args) w) (v:Value) (l:List Fx) (w:World) (hv:KX13.Is w v l) (hl:l.length * 40≤140737488355328)
  (hk:∀(W:World) (x:Fx),Below w.heap.size w W→x∈l→Calls Tryz.prog k #[.agg (encX x).toArray] W fun e w'=>MadePost KX13 Q key W (key x) e w') :
  Calls Tryz.prog 355 #[v,.func (.func k) #[] #[]] w fun e w'=>EachPost KX13 Q key w (l.map key) e w':=by
 obtain ⟨i0,hi0,hz0,hz1,hz2⟩:=info_parts Tryz.infoFld
 have hl2:l.length≤maxLen:=by unfold maxLen;omega
 obtain ⟨W0,hmk,hst0⟩:=make_row (P:=Tryz.prog) KX13 w 40 i0 _ 40 Tryz.underlying40 hi0 hz0 hz1 hz2 l.length hl2 hl
 have HI0:=hid hi0
 obtain ⟨p,cap,rfl,hd⟩:=hv
 have HD:=hid hd
 have HK:=hid hk
 have HST0:=hid hst0
 obtain ⟨M,hM⟩:∃M,w.heap.size=M:=⟨_,rfl⟩
 rw [hM] at hmk
 have HM:=hid hM
 clear hd hi0 hk hst0 hM hl2
 go_enter Tryz.func355,Tryz.ntmps355
 go_wp2_with fail
 clear hmk
 go_loopg [5,13] l.length (fun gg v5 vi wr=>∃(i:Nat) (L:List Fx) (p':Option Addr) (c':Nat),v5=.slice p' L.length c'∧vi=.int .i64 i∧i≤l.length∧l.length-i≤gg∧L.length≤i∧Hid (EachSt KX13 Q w L p' c' wr∧L.map key=(l.take i).map key))
 case atStart=>exact ⟨0,[],_,_,rfl,rfl,by omega,by omega,by simp,EachSt.start (by rw [←HM.out];exact HST0.out),by simp⟩
 case round =>
  obtain ⟨i,L,p',c',rfl,rfl,hi,hgk,hLi,HS⟩:=hrel
  by_cases hlt:i<l.length
  ·have hltz:(i:Int)<(l.length:Int):=by omega
   have hiz:(0:Int)≤i:=by omega
   obtain ⟨b1,o1,rfl,k1⟩:∃b off,p=some ⟨b,off,none⟩∧KX13.At w b off l:=by
    rcases HD.out with h|h
    ·rw [h] at hlt;simp at hlt
    ·exact h
   have hbw:Below w.heap.size w wr:=HS.out.1.row.bel
   obtain ⟨c0,c1⟩:=kx13_at (Kind.at_kept k1 hbw) i hlt
   have HTK:Hid ((l.take (i+1)).map key=(l.take i).map key++[key l[i]]):=by
    show _=_
    rw [List.take_succ_eq_append_getElem hlt,List.map_append]
    rfl
   have HC:Hid (∀W,Below w.heap.size w W→Calls Tryz.prog k #[.agg (encX l[i]).toArray] W fun e w'=>MadePost KX13 Q key W (key l[i]) e w'):=fun W hW=>HK.out W _ hW (List.getElem_mem hlt)
   generalize l[i]=x at *
   obtain ⟨V,hV⟩:∃V,wr.alloc (.cells (encX x).toArray 131)=V:=⟨_,rfl⟩
   have hbV:Below wr.heap.size wr V:=by rw [←hV];exact (Below.refl _ _).alloc (Nat.le_refl _) _
   have HO:=hid (HC.out V (bel_then hbw hbw.size hbV))
   have HSV:=hid (HS.out.1.on hbV)
   have HN:Hid (w.heap.size≤V.heap.size):=by show _≤_;have:=hbw.size;have:=hbV.size;omega
   have HE:=hid HS.out.2
   obtain ⟨G,hG⟩:∃G,wr.heap.size=G:=⟨_,rfl⟩
   have hn1:V.heap[G]? = some (.cells (encX x).toArray 131 (0,0)):=by rw [←hV,←hG];exact heap_alloc_new wr _
   have HKX:Hid (∀y,key y=key x→(L++[y]).map key=(l.take (i+1)).map key):=fun y hy=>by
    rw [HTK.out,List.map_append,HE.out,←hy]
    rfl
   generalize key x=kx at *
   obtain ⟨xn,xp,xc,xm⟩:=x
   simp only [encX,Fx.sl] at *
   have d0:=by have h:=hn1;exact (Lib.cell_of_heap h 0).trans rfl
   have d1:=by have h:=hn1;exact (Lib.cell_of_heap h 1).trans rfl
   clear k1 hbw hbV HS hn1 HC HTK HE HK
   go_upto_region 5 with fail
   try rw [hG]
   try rw [hV]
   clear hV c0 c1
   go_wp2_with (first
    | (go_at_fn k;refine HO.out.mono ?_;rintro e w1 ⟨y,rfl,hy,hky,hb1⟩;have HS1:=hid (HSV.out.on hb1);have HY:=hid (Q.weak hy HN.out);have HFR:=hid (HSV.out.fresh hy);have HKY:=hid (HKX.out y hky);clear hy hky hb1 HO HSV HKX;obtain ⟨yn,yp,yc,ym⟩:=y;simp only [KX13,encX,Fx.sl] at *)
    | (at_builtin;refine wpList_push KX13 rfl _ _ 40 rfl i0 _ 40 Tryz.underlying40 HI0.out hz0 hz1 hz2 rfl w.heap.size w _ L rfl (HS1.out.row.on ((Below.refl _ _).alloc (Nat.le_refl _) _)) ⟨yn,yp,yc,ym⟩ _ _ _ rfl rfl _ _ (heap_alloc_new _ _) (by unfold maxLen;omega) (by omega) ?_;intro g8 c8 w8 hst8 hg8 hn8;have HS8:=hid ((HS1.out.on ((Below.refl _ _).alloc (Nat.le_refl _) _)).push (MadeK.on HY.out ((Below.refl _ _).alloc (Nat.le_refl _) _)) HFR.out hst8 hg8 hn8);clear hst8 hg8 hn8))
   clear d0 d1
   go_roundg (l.length-(i+1))
   case measure=>omega
   exact ⟨i+1,L++[⟨yn,yp,yc,ym⟩],some ⟨g8,0,none⟩,c8,by rw [List.length_append];rfl,by go_num,by omega,by omega,by rw [List.length_append,List.length_singleton];omega,HS8.out,HKY.out⟩
  ·have hltz:¬ (i:Int)<(l.length:Int):=by omega
   have hti:l.take i=l:=List.take_of_length_le (by omega)
   rw [hti] at HS
   go_wp2_with fail
   go_ret
   exact ⟨p',c',L,rfl,HS.out.1,HS.out.2⟩
set_option maxHeartbeats 4000000 in
set_option maxRecDepth 100000 in
theorem eachR_any {β:Type} (Q:MadeK Rx) (key:Rx→β) (k:Nat) (eg:∀args w,(callFunc k args).run Tryz.prog w=.ok (.enter k args) w) (v:Value) (l:List Rx) (w:World) (hv:KRx.Is w v l) (hl:l.length * 40≤140737488355328)
  (hk:∀(W:World) (x:Rx),Below w.heap.size w W→x∈l→Calls Tryz.prog k #[.agg (encRx x).toArray] W fun e w'=>MadePost KRx Q key W (key x) e w') :
  Calls Tryz.prog 311 #[v,.func (.func k) #[] #[]] w fun e w'=>EachPost KRx Q key w (l.map key) e w':=by
 obtain ⟨i0,hi0,hz0,hz1,hz2⟩:=info_parts infoRx13
 have hl2:l.length≤maxLen:=by unfold maxLen;omega
 obtain ⟨W0,hmk,hst0⟩:=make_row (P:=Tryz.prog) KRx w 51 i0 _ 40 Tryz.underlying51 hi0 hz0 hz1 hz2 l.length hl2 hl
 have HI0:=hid hi0
 obtain ⟨p,cap,rfl,hd⟩:=hv
 have HD:=hid hd
 have HK:=hid hk
 have HST0:=hid hst0
 obtain ⟨M,hM⟩:∃M,w.heap.size=M:=⟨_,rfl⟩
 rw [hM] at hmk
 have HM:=hid hM
 clear hd hi0 hk hst0 hM hl2
 go_enter Tryz.func311,Tryz.ntmps311
 go_wp2_with fail
 clear hmk
 go_loopg [5,13] l.length (fun gg v5 vi wr=>∃(i:Nat) (L:List Rx) (p':Option Addr) (c':Nat),v5=.slice p' L.length c'∧vi=.int .i64 i∧i≤l.length∧l.length-i≤gg∧L.length≤i∧Hid (EachSt KRx Q w L p' c' wr∧L.map key=(l.take i).map key))
 case atStart=>exact ⟨0,[],_,_,rfl,rfl,by omega,by omega,by simp,EachSt.start (by rw [←HM.out];exact HST0.out),by simp⟩
 case round =>
  obtain ⟨i,L,p',c',rfl,rfl,hi,hgk,hLi,HS⟩:=hrel
  by_cases hlt:i<l.length
  ·have hltz:(i:Int)<(l.length:Int):=by omega
   have hiz:(0:Int)≤i:=by omega
   obtain ⟨b1,o1,rfl,k1⟩:∃b off,p=some ⟨b,off,none⟩∧KRx.At w b off l:=by
    rcases HD.out with h|h
    ·rw [h] at hlt;simp at hlt
    ·exact h
   have hbw:Below w.heap.size w wr:=HS.out.1.row.bel
   obtain ⟨c0,c1⟩:=krx_at (Kind.at_kept k1 hbw) i hlt
   have HTK:Hid ((l.take (i+1)).map key=(l.take i).map key++[key l[i]]):=by
    show _=_
    rw [List.take_succ_eq_append_getElem hlt,List.map_append]
    rfl
   have HC:Hid (∀W,Below w.heap.size w W→Calls Tryz.prog k #[.agg (encRx l[i]).toArray] W fun e w'=>MadePost KRx Q key W (key l[i]) e w'):=fun W hW=>HK.out W _ hW (List.getElem_mem hlt)
   generalize l[i]=x at *
   obtain ⟨V,hV⟩:∃V,wr.alloc (.cells (encRx x).toArray 125)=V:=⟨_,rfl⟩
   have hbV:Below wr.heap.size wr V:=by rw [←hV];exact (Below.refl _ _).alloc (Nat.le_refl _) _
   have HO:=hid (HC.out V (bel_then hbw hbw.size hbV))
   have HSV:=hid (HS.out.1.on hbV)
   have HN:Hid (w.heap.size≤V.heap.size):=by show _≤_;have:=hbw.size;have:=hbV.size;omega
   have HE:=hid HS.out.2
   obtain ⟨G,hG⟩:∃G,wr.heap.size=G:=⟨_,rfl⟩
   have hn1:V.heap[G]? = some (.cells (encRx x).toArray 125 (0,0)):=by rw [←hV,←hG];exact heap_alloc_new wr _
   have HKX:Hid (∀y,key y=key x→(L++[y]).map key=(l.take (i+1)).map key):=fun y hy=>by
    rw [HTK.out,List.map_append,HE.out,←hy]
    rfl
   generalize key x=kx at *
   obtain ⟨xn,xp,xc,xm⟩:=x
   simp only [encRx,Rx.sl] at *
   have d0:=by have h:=hn1;exact (Lib.cell_of_heap h 0).trans rfl
   have d1:=by have h:=hn1;exact (Lib.cell_of_heap h 1).trans rfl
   clear k1 hbw hbV HS hn1 HC HTK HE HK
   go_upto_region 5 with fail
   try rw [hG]
   try rw [hV]
   clear hV c0 c1
   go_wp2_with (first
    | (go_at_fn k;refine HO.out.mono ?_;rintro e w1 ⟨y,rfl,hy,hky,hb1⟩;have HS1:=hid (HSV.out.on hb1);have HY:=hid (Q.weak hy HN.out);have HFR:=hid (HSV.out.fresh hy);have HKY:=hid (HKX.out y hky);clear hy hky hb1 HO HSV HKX;obtain ⟨yn,yp,yc,ym⟩:=y;simp only [KRx,encRx,Rx.sl] at *)
    | (at_builtin;refine wpList_push KRx rfl _ _ 51 rfl i0 _ 40 Tryz.underlying51 HI0.out hz0 hz1 hz2 rfl w.heap.size w _ L rfl (HS1.out.row.on ((Below.refl _ _).alloc (Nat.le_refl _) _)) ⟨yn,yp,yc,ym⟩ _ _ _ rfl rfl _ _ (heap_alloc_new _ _) (by unfold maxLen;omega) (by omega) ?_;intro g8 c8 w8 hst8 hg8 hn8;have HS8:=hid ((HS1.out.on ((Below.refl _ _).alloc (Nat.le_refl _) _)).push (MadeK.on HY.out ((Below.refl _ _).alloc (Nat.le_refl _) _)) HFR.out hst8 hg8 hn8);clear hst8 hg8 hn8))
   clear d0 d1
   go_roundg (l.length-(i+1))
   case measure=>omega
   exact ⟨i+1,L++[⟨yn,yp,yc,ym⟩],some ⟨g8,0,none⟩,c8,by rw [List.length_append];rfl,by go_num,by omega,by omega,by rw [List.length_append,List.length_singleton];omega,HS8.out,HKY.out⟩
  ·have hltz:¬ (i:Int)<(l.length:Int):=by omega
   have hti:l.take i=l:=List.take_of_length_le (by omega)
   rw [hti] at HS
   go_wp2_with fail
   go_ret
   exact ⟨p',c',L,rfl,HS.out.1,HS.out.2⟩
set_option maxHeartbeats 4000000 in
set_option maxRecDepth 100000 in
theorem eachC_any {β:Type} (Q:MadeK Cx) (key:Cx→β) (k:Nat) (eg:∀args w,(callFunc k args).run Tryz.prog w=.ok (.enter k args) w) (v:Value) (l:List Cx) (w:World) (hv:KCx.Is w v l) (hl:l.length * 96≤140737488355328)
  (hk:∀(W:World) (x:Cx),Below w.heap.size w W→x∈l→Calls Tryz.prog k #[.agg (encCx x).toArray] W fun e w'=>MadePost KCx Q key W (key x) e w') :
  Calls Tryz.prog 313 #[v,.func (.func k) #[] #[]] w fun e w'=>EachPost KCx Q key w (l.map key) e w':=by
 obtain ⟨i0,hi0,hz0,hz1,hz2⟩:=info_parts Tryz.infoCx13
 have hl2:l.length≤maxLen:=by unfold maxLen;omega
 obtain ⟨W0,hmk,hst0⟩:=make_row (P:=Tryz.prog) KCx w 54 i0 _ 96 Tryz.underlying54 hi0 hz0 hz1 hz2 l.length hl2 hl
 have HI0:=hid hi0
 obtain ⟨p,cap,rfl,hd⟩:=hv
 have HD:=hid hd
 have HK:=hid hk
 have HST0:=hid hst0
 obtain ⟨M,hM⟩:∃M,w.heap.size=M:=⟨_,rfl⟩
 rw [hM] at hmk
 have HM:=hid hM
 clear hd hi0 hk hst0 hM hl2
 go_enter Tryz.func313,Tryz.ntmps313
 go_wp2_with fail
 clear hmk
 go_loopg [5,13] l.length (fun gg v5 vi wr=>∃(i:Nat) (L:List Cx) (p':Option Addr) (c':Nat),v5=.slice p' L.length c'∧vi=.int .i64 i∧i≤l.length∧l.length-i≤gg∧L.length≤i∧Hid (EachSt KCx Q w L p' c' wr∧L.map key=(l.take i).map key))
 case atStart=>exact ⟨0,[],_,_,rfl,rfl,by omega,by omega,by simp,EachSt.start (by rw [←HM.out];exact HST0.out),by simp⟩
 case round =>
  obtain ⟨i,L,p',c',rfl,rfl,hi,hgk,hLi,HS⟩:=hrel
  by_cases hlt:i<l.length
  ·have hltz:(i:Int)<(l.length:Int):=by omega
   have hiz:(0:Int)≤i:=by omega
   obtain ⟨b1,o1,rfl,k1⟩:∃b off,p=some ⟨b,off,none⟩∧KCx.At w b off l:=by
    rcases HD.out with h|h
    ·rw [h] at hlt;simp at hlt
    ·exact h
   have hbw:Below w.heap.size w wr:=HS.out.1.row.bel
   obtain ⟨c0,c1,c2,c3,c4,c5⟩:=kcx_at (Kind.at_kept k1 hbw) i hlt
   have HTK:Hid ((l.take (i+1)).map key=(l.take i).map key++[key l[i]]):=by
    show _=_
    rw [List.take_succ_eq_append_getElem hlt,List.map_append]
    rfl
   have HC:Hid (∀W,Below w.heap.size w W→Calls Tryz.prog k #[.agg (encCx l[i]).toArray] W fun e w'=>MadePost KCx Q key W (key l[i]) e w'):=fun W hW=>HK.out W _ hW (List.getElem_mem hlt)
   generalize l[i]=x at *
   obtain ⟨V,hV⟩:∃V,wr.alloc (.cells (encCx x).toArray 105)=V:=⟨_,rfl⟩
   have hbV:Below wr.heap.size wr V:=by rw [←hV];exact (Below.refl _ _).alloc (Nat.le_refl _) _
   have HO:=hid (HC.out V (bel_then hbw hbw.size hbV))
   have HSV:=hid (HS.out.1.on hbV)
   have HN:Hid (w.heap.size≤V.heap.size):=by show _≤_;have:=hbw.size;have:=hbV.size;omega
   have HE:=hid HS.out.2
   obtain ⟨G,hG⟩:∃G,wr.heap.size=G:=⟨_,rfl⟩
   have hn1:V.heap[G]? = some (.cells (encCx x).toArray 105 (0,0)):=by rw [←hV,←hG];exact heap_alloc_new wr _
   have HKX:Hid (∀y,key y=key x→(L++[y]).map key=(l.take (i+1)).map key):=fun y hy=>by
    rw [HTK.out,List.map_append,HE.out,←hy]
    rfl
   generalize key x=kx at *
   obtain ⟨xa,xb,xwl,xwp,xwc,xwo,xil,xip,xic,xio⟩:=x
   simp only [encCx] at *
   have d0:=by have h:=hn1;exact (Lib.cell_of_heap h 0).trans rfl
   have d1:=by have h:=hn1;exact (Lib.cell_of_heap h 1).trans rfl
   have d2:=by have h:=hn1;exact (Lib.cell_of_heap h 2).trans rfl
   have d3:=by have h:=hn1;exact (Lib.cell_of_heap h 3).trans rfl
   have d4:=by have h:=hn1;exact (Lib.cell_of_heap h 4).trans rfl
   have d5:=by have h:=hn1;exact (Lib.cell_of_heap h 5).trans rfl
   clear k1 hbw hbV HS hn1 HC HTK HE HK
   go_upto_region 5 with fail
   try rw [hG]
   try rw [hV]
   clear hV c0 c1 c2 c3 c4 c5
   go_wp2_with (first
    | (go_at_fn k;refine HO.out.mono ?_;rintro e w1 ⟨y,rfl,hy,hky,hb1⟩;have HS1:=hid (HSV.out.on hb1);have HY:=hid (Q.weak hy HN.out);have HFR:=hid (HSV.out.fresh hy);have HKY:=hid (HKX.out y hky);clear hy hky hb1 HO HSV HKX;obtain ⟨ya,yb,ywl,ywp,ywc,ywo,yil,yip,yic,yio⟩:=y;simp only [KCx,encCx] at *)
    | (at_builtin;refine wpList_push KCx rfl _ _ 54 rfl i0 _ 96 Tryz.underlying54 HI0.out hz0 hz1 hz2 rfl w.heap.size w _ L rfl (HS1.out.row.on ((Below.refl _ _).alloc (Nat.le_refl _) _)) ⟨ya,yb,ywl,ywp,ywc,ywo,yil,yip,yic,yio⟩ _ _ _ rfl rfl _ _ (heap_alloc_new _ _) (by unfold maxLen;omega) (by omega) ?_;intro g8 c8 w8 hst8 hg8 hn8;have HS8:=hid ((HS1.out.on ((Below.refl _ _).alloc (Nat.le_refl _) _)).push (MadeK.on HY.out ((Below.refl _ _).alloc (Nat.le_refl _) _)) HFR.out hst8 hg8 hn8);clear hst8 hg8 hn8))
   clear d0 d1 d2 d3 d4 d5
   go_roundg (l.length-(i+1))
   case measure=>omega
   exact ⟨i+1,L++[⟨ya,yb,ywl,ywp,ywc,ywo,yil,yip,yic,yio⟩],some ⟨g8,0,none⟩,c8,by rw [List.length_append];rfl,by go_num,by omega,by omega,by rw [List.length_append,List.length_singleton];omega,HS8.out,HKY.out⟩
  ·have hltz:¬ (i:Int)<(l.length:Int):=by omega
   have hti:l.take i=l:=List.take_of_length_le (by omega)
   rw [hti] at HS
   go_wp2_with fail
   go_ret
   exact ⟨p',c',L,rfl,HS.out.1,HS.out.2⟩
end
section
open Go.RowKit Go.Sort Go.Lib
set_option maxHeartbeats 1000000 in
theorem or_any (g:Nat) (a b c:Int) (w:World) (c0:w.cell? ⟨g,0,none⟩=some (.int .i64 a)) (c1:w.cell? ⟨g,1,none⟩=some (.int .i64 b)) (c2:w.cell? ⟨g,2,none⟩=some (.int .i64 c)) :
  Calls Tryz.prog 250 #[.slice (some ⟨g,0,none⟩) 3 3] w fun e w'=>e=.returned (.int .i64 (pairI a (pairI b c)))∧w'=w:=by
 by_cases ha:a=0
 ·subst ha
  rw [pairI_zero]
  by_cases hb:b=0
  ·subst hb
   rw [pairI_zero]
   by_cases hc:c=0
   ·subst hc
    go_enter Tryz.func250,Tryz.ntmps250
    go_wp2_with fail
    refine wp_loop_rounds 4 ?_
    rw [rounds_succ]
    go_wp2_with fail
    rw [rounds_succ]
    go_wp2_with fail
    rw [rounds_succ]
    go_wp2_with fail
    rw [rounds_succ]
    go_wp2_with fail
    go_ret
    exact ⟨rfl,rfl⟩
   ·have hcn:(c != 0)=true:=by simpa using hc
    go_enter Tryz.func250,Tryz.ntmps250
    go_wp2_with fail
    refine wp_loop_rounds 3 ?_
    rw [rounds_succ]
    go_wp2_with fail
    rw [rounds_succ]
    go_wp2_with fail
    rw [rounds_succ]
    go_wp2_with fail
    go_ret
    exact ⟨rfl,rfl⟩
  ·have hbn:(b != 0)=true:=by simpa using hb
   rw [pairI_ne hb]
   go_enter Tryz.func250,Tryz.ntmps250
   go_wp2_with fail
   refine wp_loop_rounds 2 ?_
   rw [rounds_succ]
   go_wp2_with fail
   rw [rounds_succ]
   go_wp2_with fail
   go_ret
   exact ⟨rfl,rfl⟩
 ·have han:(a != 0)=true:=by simpa using ha
  rw [pairI_ne ha]
  go_enter Tryz.func250,Tryz.ntmps250
  go_wp2_with fail
  refine wp_loop_rounds 1 ?_
  rw [rounds_succ]
  go_wp2_with fail
  go_ret
  exact ⟨rfl,rfl⟩
set_option maxHeartbeats 4000000 in
set_option maxRecDepth 100000 in
theorem compare_any (x y:Tm) (w:World):Calls Tryz.prog 246 #[.agg (encM x).toArray,.agg (encM y).toArray] w fun e w'=>e=.returned (.int .i64 (cmpM x y))∧Grown w w':=by
 obtain ⟨a1,a2,a3⟩:=x
 obtain ⟨b1,b2,b3⟩:=y
 simp only [encM]
 obtain ⟨p1,hp1⟩:∃p,Lib.compareBytes a1.data.toList b1.data.toList=p:=⟨_,rfl⟩
 obtain ⟨p2,hp2⟩:∃p,Lib.compareInt a2 b2=p:=⟨_,rfl⟩
 obtain ⟨p3,hp3⟩:∃p,Lib.compareBytes a3.data.toList b3.data.toList=p:=⟨_,rfl⟩
 have HC:Hid (cmpM (a1,a2,a3) (b1,b2,b3)=pairI p1 (pairI p2 p3)):=by show _=_;rw [←hp1,←hp2,←hp3];rfl
 have H1:Hid (∀w,Calls Tryz.prog 251 #[.string a1,.string b1] w fun e w'=>e=.returned (.int .i64 p1)∧w'=w):=fun w=>by rw [←hp1];exact Tryz.strings_Compare _ _ _
 have H2:Hid (∀w,Calls Tryz.prog 321 #[.int .i64 a2,.int .i64 b2] w fun e w'=>e=.returned (.int .i64 p2)∧w'=w):=fun w=>by rw [←hp2];exact Tryz.cmp_Compare_int _ _ _
 have H3:Hid (∀w,Calls Tryz.prog 251 #[.string a3,.string b3] w fun e w'=>e=.returned (.int .i64 p3)∧w'=w):=fun w=>by rw [←hp3];exact Tryz.strings_Compare _ _ _
 clear hp1 hp2 hp3
 go_enter Tryz.func246,Tryz.ntmps246
 go_wp2_with fail
 obtain ⟨W,hW⟩:∃W,(w.alloc (.cells #[.string a1,.int .i64 a2,.string a3] 122)).alloc (.cells #[.string b1,.int .i64 b2,.string b3] 122)=W:=⟨_,rfl⟩
 obtain ⟨N,hN⟩:∃N,w.heap.size=N:=⟨_,rfl⟩
 have hs:W.heap.size=N+2:=by rw [←hW,←hN];simp
 have hh0:W.heap[N]? = some (.cells #[.string a1,.int .i64 a2,.string a3] 122 (0,0)):=by
  rw [←hW,←hN];exact (Below.heap_alloc _ _ _ (by simp)).trans (heap_alloc_new w _)
 have hh1:W.heap[N+1]? = some (.cells #[.string b1,.int .i64 b2,.string b3] 122 (0,0)):=by
  rw [←hW,←hN];have:=heap_alloc_new (w.alloc (.cells #[.string a1,.int .i64 a2,.string a3] 122)) (.cells #[.string b1,.int .i64 b2,.string b3] 122);rwa [World.size_alloc] at this
 have HG:Hid (Grown w W):=by rw [←hW];exact ((Grown.refl _).alloc _).alloc _
 have KS:Hid (∀w':World,w'.heap[N]? = W.heap[N]?→w'.heap[N+1]? = W.heap[N+1]?→w'.cell? ⟨N,0,none⟩=some (.string a1)∧w'.cell? ⟨N,1,none⟩=some (.int .i64 a2)∧w'.cell? ⟨N,2,none⟩=some (.string a3)∧w'.cell? ⟨N+1,0,none⟩=some (.string b1)∧w'.cell? ⟨N+1,1,none⟩=some (.int .i64 b2)∧w'.cell? ⟨N+1,2,none⟩=some (.string b3)):=fun w' e e'=>by
  rw [Lib.cell_of_heap (e.trans hh0),Lib.cell_of_heap (e.trans hh0),Lib.cell_of_heap (e.trans hh0),Lib.cell_of_heap (e'.trans hh1),Lib.cell_of_heap (e'.trans hh1),Lib.cell_of_heap (e'.trans hh1)]
  exact ⟨rfl,rfl,rfl,rfl,rfl,rfl⟩
 have q0:=KS.out W.drew rfl rfl
 have q1:=KS.out (W.drew.alloc (.cells #[.int .i64 p1,.int .i64 p2,.int .i64 p3] 3)) (Below.heap_alloc _ _ _ (by show N<W.heap.size;omega)) (Below.heap_alloc _ _ _ (by show N+1<W.heap.size;omega))
 have HO:Hid (Calls Tryz.prog 250 #[.slice (some ⟨W.heap.size,0,none⟩) 3 3] (W.drew.alloc (.cells #[.int .i64 p1,.int .i64 p2,.int .i64 p3] 3)) fun e w'=>e=.returned (.int .i64 (pairI p1 (pairI p2 p3)))∧w'=W.drew.alloc (.cells #[.int .i64 p1,.int .i64 p2,.int .i64 p3] 3)) :=
  or_any W.drew.heap.size p1 p2 p3 _ (by rw [Lib.cell_of_heap (heap_alloc_new W.drew _)];rfl) (by rw [Lib.cell_of_heap (heap_alloc_new W.drew _)];rfl) (by rw [Lib.cell_of_heap (heap_alloc_new W.drew _)];rfl)
 clear hh0 hh1 hs
 rw [hN]
 rw [hW]
 clear hW hN
 go_region_held3 (fun w'=>w'.cell? ⟨N,0,none⟩=some (.string a1)∧w'.cell? ⟨N,1,none⟩=some (.int .i64 a2)∧w'.cell? ⟨N,2,none⟩=some (.string a3)∧w'.cell? ⟨N+1,0,none⟩=some (.string b1)∧w'.cell? ⟨N+1,1,none⟩=some (.int .i64 b2)∧w'.cell? ⟨N+1,2,none⟩=some (.string b3))
  (first|exact q0|exact q1)
  (first
   | (go_at_call 251;refine (H1.out _).mono ?_;rintro e w1 ⟨rfl,rfl⟩)
   | (go_at_call 251;refine (H3.out _).mono ?_;rintro e w1 ⟨rfl,rfl⟩)
   | (go_at_call 321;refine (H2.out _).mono ?_;rintro e w1 ⟨rfl,rfl⟩)
   | (go_at_call 250;refine HO.out.mono ?_;rintro e w1 ⟨rfl,rfl⟩))
 go_wp2_with fail
 go_ret
 exact ⟨ret_int HC.out.symm,(HG.out.drewN 1).alloc _⟩
theorem cmpLaysM (blk off size:Nat) (w:World):CmpLays Tryz.prog 246 #[] encM 3 cmpM blk off size w :=
 fun _ _ _ _ x y=>compare_any x y _
theorem enters_compare:∀args w,(callFunc 246 args).run Tryz.prog w=.ok (.enter 246 args) w:=enters_of Tryz.func246 (by kernel_rfl) rfl
theorem sortM_rows (n0 g n cap:Nat) (d:List Tm) (w:World) (h:KM.Own n0 w (.slice (some ⟨g,0,none⟩) n cap) d) (hn:d.length=n) (h0:n0≤w.heap.size) (h12:n≤12) :
  Calls Tryz.prog 245 #[.slice (some ⟨g,0,none⟩) n cap,.func (.func 246) #[] #[]] w fun e w' =>
   e=.returned (.tuple #[])∧∃d':Array Tm,d'.size=n∧d'.toList.Perm d∧SortedIn (ltOf cmpM) 0 d'.size d'∧KM.Own n0 w' (.slice (some ⟨g,0,none⟩) n cap) d'.toList∧Below n0 w w':=by
 subst hn
 have hg:g<w.heap.size∧n0≤g:=by
  rcases h.2 with ⟨hv,_⟩|⟨g',cap',cur,hv,h1,h2,_⟩
  ·cases hv
  ·injection hv with e1 e2 e3
   injection e1 with e1
   injection e1 with e1 _ _
   subst e1
   exact ⟨(Array.getElem?_eq_some_iff.1 h2).1,h1⟩
 have hs:d.toArray.size=d.length:=by simp
 have hc:=AnyQ.slices_SortFunc_small_sorted Tryz.sortTrm 3 Tryz.isAgg122 Tryz.sizeOf122 encM (fun _=>rfl) KM.one cmpM 246 #[] swoM g 0 cap d.toArray w enters_compare (cmpLaysM g 0 _ w) (own_holds h) hg.1 (by rw [hs];exact h12)
  (fun n W hn=>(Tryz.bits_Len (n:Int) W (by omega) (by omega)).mono fun e w' ⟨h1,h2⟩=>⟨⟨_,h1⟩,h2⟩)
 rw [hs] at hc
 change Calls Tryz.prog 245 _ _ _ at hc
 refine hc.mono ?_
 rintro e w' ⟨rfl,d',m,os,hp,hso,rfl⟩
 have hsz:d'.size=d.length:=by have:=hp.1;rwa [hs] at this
 refine ⟨rfl,d',hsz,?_,by rw [hsz];exact hso,own_sorted h d' hsz m os,below_sortM (Below.refl _ _) h0 g 0 m d' os hg.2⟩
 have:=hp.2.2
 have e1:d'.extract 0 d.length=d':=by rw [←hsz];simp
 have e2:d.toArray.extract 0 d.length=d.toArray:=by rw [←hs];simp
 rw [e1,e2] at this
 simpa using this
end
section
open Go.RowKit Go.Sort Go.Lib
theorem eql_term (a b:Tm) (w:World):(binOp .eql 122 (.agg #[.string a.1,.int .i64 a.2.1,.string a.2.2]) (.agg #[.string b.1,.int .i64 b.2.1,.string b.2.2])).run Tryz.prog w=.ok (.bool (decide (a=b))) w:=by
 obtain ⟨a1,a2,a3⟩:=a
 obtain ⟨b1,b2,b3⟩:=b
 have hS:Tryz.prog.underlying 122=some (.struct (Tryz.prog.fieldsOf 122)):=by kernel_rfl
 have hp:Tryz.prog.stoodInHeld 122=false:=by kernel_rfl
 have u9:=Tryz.underlying9
 have a9:=Tryz.isAgg9
 have z9:=Tryz.sizeOf9
 have u3:=Tryz.underlying3
 have a3':=Tryz.isAgg3
 have z3:=Tryz.sizeOf3
 rw [run_eql_struct,show (10000:Nat)=9999+1 from rfl,run_equalIn_agg w 9999 122 _ _ hS hp]
 simp only [Program.fieldsOf,Tryz.underlying122]
 go_simp
 by_cases h1:a1=b1
 ·subst h1
  by_cases h2:a2=b2
  ·subst h2
   by_cases h3:a3=b3
   ·subst h3;simp
   ·have e3:=beq_eq_false_iff_ne.1 (seq_false h3)
    simp [h3,e3]
  ·simp [h2]
 ·have e1:=beq_eq_false_iff_ne.1 (seq_false h1)
  simp [h1,e1]
theorem run_clearM (w:World) (ty:TypeId) (g o n c:Nat) (hn:0<n) (hc:∀j,j<n * 3→(w.cell? ⟨g,o+j,none⟩).isSome=true) (hf:∀j,j<n * 3→w.frozen? ⟨g,o+j,none⟩=false) :
  ∃zs:List Value,(Builtin.clear_ #[41] ty #[.slice (some ⟨g,o,none⟩) n c]).run Tryz.prog w=.ok (.tuple #[]) (w.setCells g o zs):=by
 have hv:∀w,(zeroValue 122).run Tryz.prog w=.ok (.agg #[.string ⟨#[]⟩,.int .i64 0,.string ⟨#[]⟩]) w:=Tryz.zeroValue122
 obtain ⟨zs,hzs⟩:∃zs,(Builtin.zeroCells (Value.agg #[.string ⟨#[]⟩,.int .i64 0,.string ⟨#[]⟩]).cells n).toList=zs:=⟨_,rfl⟩
 have hl:zs.length=n * 3:=by rw [←hzs,Array.length_toList,size_zeroCells];rfl
 have h1:∀v∈zs,v.oneCell'=true:=by
  intro v hm
  rw [←hzs] at hm
  simp only [Builtin.zeroCells,Array.toList_map,List.mem_map] at hm
  obtain ⟨i,_,rfl⟩:=hm
  have h3:i % (Value.agg #[.string ⟨#[]⟩,.int .i64 0,.string ⟨#[]⟩]).cells.size<3:=Nat.mod_lt _ (by decide)
  obtain ⟨m,hm⟩:∃m,i % (Value.agg #[.string ⟨#[]⟩,.int .i64 0,.string ⟨#[]⟩]).cells.size=m:=⟨_,rfl⟩
  rw [hm] at h3 ⊢
  rcases (show m=0∨m=1∨m=2 by omega) with rfl|rfl|rfl<;>rfl
 refine ⟨zs,?_⟩
 have hst:=run_storeCells_cells (P:=Tryz.prog) g o zs 0 w (by rw [hl];simpa using hc) (by rw [hl];simpa using hf) h1
 simp only [Nat.add_zero] at hst
 obtain ⟨m,rfl⟩:∃m,n=m+1:=⟨n-1,by omega⟩
 simp [Builtin.clear_,run_underlying Tryz.underlying41,hv,hzs,hst]
theorem own_cells {n0 g n cap:Nat} {w:World} {d:Array Tm} (h:KM.Own n0 w (.slice (some ⟨g,0,none⟩) n cap) d.toList) (i:Nat) (hi:i<d.size) :
  w.cell? ⟨g,i * 3,none⟩=some (.string (d[i]!).1)∧w.cell? ⟨g,i * 3+1,none⟩=some (.int .i64 (d[i]!).2.1)∧w.cell? ⟨g,i * 3+2,none⟩=some (.string (d[i]!).2.2) ∧
  w.frozen? ⟨g,i * 3,none⟩=false∧w.frozen? ⟨g,i * 3+1,none⟩=false∧w.frozen? ⟨g,i * 3+2,none⟩=false:=by
 have hH:=own_holds h
 have hi':i<d.toList.toArray.size:=by simpa using hi
 have k0:=hH.cell (i:=i) (c:=0) hi' (by decide)
 have k1:=hH.cell (i:=i) (c:=1) hi' (by decide)
 have k2:=hH.cell (i:=i) (c:=2) hi' (by decide)
 have he:d.toList.toArray[i]! = d[i]!:=by simp
 rw [he] at k0 k1 k2
 simp only [Nat.zero_add,Nat.add_zero] at k0 k1 k2
 exact ⟨k0.1,k1.1,k2.1,k0.2,k1.2,k2.2⟩
theorem own_some {n0 g n cap:Nat} {w:World} {d:Array Tm} (h:KM.Own n0 w (.slice (some ⟨g,0,none⟩) n cap) d.toList) (t:Nat) (ht:t<d.size * 3) :
  (w.cell? ⟨g,t,none⟩).isSome=true∧w.frozen? ⟨g,t,none⟩=false:=by
 have:=own_holds h t (by rw [size_flatK];simpa using ht)
 rw [Nat.zero_add] at this
 exact ⟨by rw [this.1];rfl,this.2⟩
theorem own_ge {n0 g n cap:Nat} {w:World} {d:List Tm} (h:KM.Own n0 w (.slice (some ⟨g,0,none⟩) n cap) d):n0≤g∧g<w.heap.size∧d.length≤cap∧cap≤maxLen:=by
 rcases h.2 with ⟨hv,_⟩|⟨g',cap',cur,hv,h1,h2,h3,h4,_⟩
 ·cases hv
 ·injection hv with e1 e2 e3
  injection e1 with e1
  injection e1 with e1 _ _
  subst e1 e3
  exact ⟨h1,(Array.getElem?_eq_some_iff.1 h2).1,h3,h4⟩
theorem own_drew {n0:Nat} {w:World} {v:Value} {d:List Tm} (h:KM.Own n0 w v d) (q:Nat):KM.Own n0 (w.drewN q) v d:=h
theorem compact_same {d:Array Tm} (h:∀j,j<d.size→keeps d j=true):compactUpTo d d.size=d.toList:=by
 rw [compactUpTo_all d _ h,range_map_get]
theorem comp_low {d dk:Array Tm} {m k:Nat} (h:CompInv d m k dk) (hk:k≤dk.size):dk.toList.take k=compactUpTo d m:=by
 apply List.ext_getElem?
 intro j
 rw [List.getElem?_take]
 by_cases hj:j<k
 ·rw [if_pos hj,h.low j hj,Array.getElem?_toList,Array.getElem?_eq_getElem (by omega),getElem!_pos dk j (by omega)]
 ·rw [if_neg hj,List.getElem?_eq_none (by rw [h.len];omega)]
def CompPost (n0 g cap:Nat) (d:Array Tm) (w:World) (e:Ending) (w':World):Prop :=
 e=.returned (.slice (some ⟨g,0,none⟩) (compactUpTo d d.size).length cap)∧KM.Own n0 w' (.slice (some ⟨g,0,none⟩) (compactUpTo d d.size).length cap) (compactUpTo d d.size)∧Below n0 w w'
theorem CompPost.same {n0 g n cap:Nat} {d:Array Tm} {w:World} (h:KM.Own n0 w (.slice (some ⟨g,0,none⟩) n cap) d.toList) (hn:d.size=n) (hk:∀j,j<d.size→keeps d j=true) (q:Nat) :
  CompPost n0 g cap d w (.returned (.slice (some ⟨g,0,none⟩) n cap)) (w.drewN q):=by
 subst hn
 unfold CompPost
 rw [compact_same hk]
 refine ⟨by simp,?_,bel_drewN (Below.refl _ _) q⟩
 have:d.toList.length=d.size:=by simp
 rw [this]
 exact own_drew h q
set_option maxHeartbeats 8000000 in
set_option maxRecDepth 100000 in
theorem compact_any (n0 g n cap:Nat) (d:Array Tm) (w:World) (h:KM.Own n0 w (.slice (some ⟨g,0,none⟩) n cap) d.toList) (hn:d.size=n) (hn0:n0≤w.heap.size) (h63:n≤1000) :
  Calls Tryz.prog 247 #[.slice (some ⟨g,0,none⟩) n cap] w fun e w'=>CompPost n0 g cap d w e w':=by
 obtain ⟨hng,hgl,hcap,hcm⟩:=own_ge h
 have hcap':n≤cap:=by rw [←hn];simpa using hcap
 unfold maxLen at hcm
 have HH:=hid h
 have HN:=hid hn
 clear h hn hcap
 by_cases h2:n<2
 ·have h2z:(n:Int)<2:=by omega
  have HP:=hid (CompPost.same HH.out HN.out (fun j hj=>keeps_lt_one d j (by rw [HN.out] at hj;omega)) 0)
  go_enter Tryz.func247,Tryz.ntmps247
  go_wp2_with fail
  go_ret
  exact HP.out
 ·have h2z:¬ (n:Int)<2:=by omega
  go_enter Tryz.func247,Tryz.ntmps247
  go_wp2_with fail
  go_loopg [3] n (fun g s3 wr=>∃k q:Nat,1≤k∧k≤n∧n-k≤g∧s3=.int .i64 k∧wr=w.drewN q∧Hid (∀j,j<k→keeps d j=true))
  case atStart=>exact ⟨1,0,Nat.le_refl _,by omega,by omega,rfl,rfl,keeps_lt_one d⟩
  case round =>
   obtain ⟨k,q,hk1,hk,hg,rfl,rfl,A⟩:=hrel
   by_cases hlt:k<n
   ·have hltz:(k:Int)<(n:Int):=by omega
    have hkz:(0:Int)≤k:=by omega
    have hkz1:(0:Int)≤(k:Int)-1:=by omega
    have hkz2:(k:Int)-1<(n:Int):=by omega
    have hkt:((k:Int)-1).toNat=k-1:=by omega
    obtain ⟨c0,c1,c2,_,_,_⟩:=own_cells HH.out k (by rw [HN.out];exact hlt)
    obtain ⟨y0,y1,y2,_,_,_⟩:=own_cells HH.out (k-1) (by rw [HN.out];omega)
    obtain ⟨x,hx⟩:∃x,d[k]! = x:=⟨_,rfl⟩
    obtain ⟨y,hy⟩:∃y,d[k-1]! = y:=⟨_,rfl⟩
    rw [hx] at c0 c1 c2
    rw [hy] at y0 y1 y2
    have B:Hid (d[k]! = x∧d[k-1]! = y):=⟨hx,hy⟩
    have heq:=fun W=>eql_term x y W
    clear hx hy
    by_cases hdup:x=y
    ·have hd:=decide_eq_true hdup
     rw [hd] at heq
     have HDUP:=hid hdup
     clear hdup hd
     go_wp2_with fail
     go_quiet (fail)
     go_wp2_with fail
     clear c0 c1 c2 y0 y1 y2
     have ST0:Hid (CompInv d (k+1) k d):=CompInv.start A.out (keeps_neg (by omega) (by rw [B.out.1,B.out.2];exact HDUP.out))
     go_loopg [3,5] n (fun gm s3 s5 wr=>∃(kk k2:Nat) (dk:Array Tm),s3=.int .i64 kk∧s5=.int .i64 k2∧1≤k2∧k+k2≤n∧n-(k+k2)≤gm∧kk<k+k2∧Hid (CompInv d (k+k2) kk dk)∧Hid (KM.Own n0 wr (.slice (some ⟨g,0,none⟩) n cap) dk.toList)∧Hid (Below n0 w wr))
     case atStart=>exact ⟨k,1,d,rfl,rfl,Nat.le_refl _,by omega,by omega,by omega,ST0,own_drew HH.out _,bel_drewN (Below.refl _ _) _⟩
     case round =>
      obtain ⟨kk,k2,dk,rfl,rfl,h1,hle,hg2,hkk,I2,HO,HB⟩:=hrel
      have hds:dk.size=n:=by rw [I2.out.size];exact HN.out
      have hkz':(0:Int)≤kk:=by omega
      have hkn':(kk:Int)<(n:Int):=by omega
      have hk2z:(0:Int)≤k2:=by omega
      have hk2m:(0:Int)≤(k2:Int)-1:=by omega
      have hk2t:((k2:Int)-1).toNat=k2-1:=by omega
      by_cases hlt2:k+k2<n
      ·have hl2:(k2:Int)<((n-k:Nat):Int):=by omega
       have hl3:(k2:Int)-1<((n-k:Nat):Int):=by omega
       obtain ⟨u0,u1,u2,_,_,_⟩:=own_cells HO.out (k+k2) (by omega)
       obtain ⟨v0,v1,v2,_,_,_⟩:=own_cells HO.out (k+k2-1) (by omega)
       obtain ⟨o0,o1,o2,f0,f1,f2⟩:=own_cells HO.out kk (by omega)
       rw [I2.out.high (k+k2) (by omega),show (k+k2) * 3=k * 3+k2 * 3 by omega] at u0 u1 u2
       rw [I2.out.high (k+k2-1) (by omega),show (k+k2-1) * 3=k * 3+(k2-1) * 3 by omega] at v0 v1 v2
       obtain ⟨u,hu⟩:∃u,d[k+k2]! = u:=⟨_,rfl⟩
       obtain ⟨v,hv⟩:∃v,d[k+k2-1]! = v:=⟨_,rfl⟩
       obtain ⟨old,hol⟩:∃old,dk[kk]! = old:=⟨_,rfl⟩
       rw [hu] at u0 u1 u2
       rw [hv] at v0 v1 v2
       rw [hol] at o0 o1 o2
       have C:Hid (d[k+k2]! = u∧d[k+k2-1]! = v):=⟨hu,hv⟩
       have hne:=fun W=>neq_term u v W
       clear hu hv hol
       by_cases huv:u=v
       ·have hd:=decide_eq_true huv
        rw [hd] at hne
        have HUV:=hid huv
        clear huv hd
        go_wp2_with fail
        go_quiet (fail)
        go_wp2_with fail
        go_roundg (n-(k+(k2+1)))
        case measure=>omega
        exact ⟨kk,k2+1,dk,rfl,by go_num,by omega,by omega,Nat.le_refl _,by omega,I2.out.skip (keeps_neg (by omega) (by rw [C.out.1,C.out.2];exact HUV.out)),own_drew HO.out _,bel_drewN HB.out _⟩
       ·have hd:=decide_eq_false huv
        rw [hd] at hne
        have HUV:=hid huv
        clear huv hd
        have HPUT:Hid (∀nq,KM.Own n0 ((((wr.drewN nq).setCell ⟨g,kk * 3,none⟩ (.string u.1)).setCell ⟨g,kk * 3+1,none⟩ (.int .i64 u.2.1)).setCell ⟨g,kk * 3+2,none⟩ (.string u.2.2)) (.slice (some ⟨g,0,none⟩) n cap) (dk.setIfInBounds kk u).toList):=fun nq=>by
         rw [Array.toList_setIfInBounds]
         exact own_put (own_drew HO.out nq) (by simpa using hds) kk (by rw [Array.length_toList];omega) u
        go_wp2_with fail
        go_quiet (fail)
        go_wp2_with fail
        go_roundg (n-(k+(k2+1)))
        case measure=>omega
        refine ⟨kk+1,k2+1,dk.setIfInBounds kk u,by go_num,by go_num,by omega,by omega,Nat.le_refl _,by omega,?_,HPUT.out _,(((bel_drewN HB.out _).setCell (p:=⟨g,kk * 3,none⟩) hng _).setCell (p:=⟨g,kk * 3+1,none⟩) hng _).setCell (p:=⟨g,kk * 3+2,none⟩) hng _⟩
        have:=I2.out.keep (by rw [HN.out];exact hlt2) (keeps_pos (by rw [C.out.1,C.out.2];exact HUV.out))
        rw [C.out.1] at this
        exact this
      ·have hend:k+k2=n:=by omega
       have hl2:¬ (k2:Int)<((n-k:Nat):Int):=by omega
       have hnk:0<n-kk:=by omega
       obtain ⟨zs,hcl⟩:∃zs:List Value,∀ty,(Builtin.clear_ #[41] ty #[.slice (some ⟨g,kk * 3,none⟩) (n-kk) (cap-kk)]).run Tryz.prog wr=.ok (.tuple #[]) (wr.setCells g (kk * 3) zs):=by
        obtain ⟨zs,hz⟩:=run_clearM wr 0 g (kk * 3) (n-kk) (cap-kk) hnk (fun j hj=>(own_some HO.out (kk * 3+j) (by omega)).1) (fun j hj=>(own_some HO.out (kk * 3+j) (by omega)).2)
        exact ⟨zs,fun ty=>hz⟩
       have HE:=hid hend
       clear hend
       go_wp2_with fail
       go_ret
       have hI:=I2.out
       rw [HE.out,←HN.out] at hI
       have hlow:=comp_low hI (by omega)
       have hln:=hI.len
       unfold CompPost
       rw [hln,←hlow]
       refine ⟨rfl,own_past zs wr (kk * 3) (own_cut HO.out kk (by rw [Array.length_toList];omega)) (by rw [List.length_take,Array.length_toList];omega) (Nat.le_refl _),?_⟩
       exact HB.out.grown (grown_sets zs wr wr (kk * 3) (by have:=grown_set wr g 0 (.int .i64 0);exact ⟨rfl,rfl,rfl,Nat.le_refl _,fun _ _ _=>rfl⟩)) (Nat.le_trans hn0 HB.out.size) (fun k e=>by cases e;exact hng)
    ·have hd:=decide_eq_false hdup
     rw [hd] at heq
     have HDUP:=hid hdup
     clear hdup hd
     go_wp2_with fail
     go_quiet (fail)
     go_wp2_with fail
     go_roundg (n-(k+1))
     case measure=>omega
     refine ⟨k+1,_,by omega,by omega,Nat.le_refl _,by go_num,rfl,fun j hj=>?_⟩
     by_cases e:j=k
     ·subst e
      exact keeps_pos (by rw [B.out.1,B.out.2];exact HDUP.out)
     ·exact A.out j (by omega)
   ·have hkn:k=n:=by omega
    subst hkn
    have HP:=hid (CompPost.same HH.out HN.out (fun j hj=>A.out j (by rw [HN.out] at hj;exact hj)) q)
    have hltz:¬ (k:Int)<(k:Int):=by omega
    go_wp2_with fail
    go_ret
    exact HP.out
end
section
open Go.RowKit Go.Sort Go.Lib
set_option maxHeartbeats 1000000 in
theorem pmis_any (x:Tm) (w:World) (hs:x.1.size≤maxLen):Calls Tryz.prog 241 #[.agg (encM x).toArray] w fun e w'=>e=.returned (.bool (!namedM x))∧Grown w w':=by
 obtain ⟨a,o,t⟩:=x
 simp only [encM,namedM] at hs ⊢
 go_enter Tryz.func241,Tryz.ntmps241
 go_wp2_with (go_at_call 318;refine (field_any _ _ hs).mono ?_;rintro e w' ⟨rfl,rfl⟩)
 go_ret
 exact ⟨rfl,(Grown.refl _).alloc _⟩
set_option maxHeartbeats 1000000 in
theorem plong_any (x:Tm) (w:World):Calls Tryz.prog 243 #[.agg (encM x).toArray] w fun e w'=>e=.returned (.bool (!shortM x))∧Grown w w':=by
 obtain ⟨a,o,t⟩:=x
 simp only [encM,shortM]
 have HE:Hid (decide ((128:Int)<t.size) = !decide (t.size≤128)):=by
  show _=_
  rw [Bool.eq_iff_iff];simp;omega
 go_enter Tryz.func243,Tryz.ntmps243
 go_wp2_with fail
 go_ret
 exact ⟨ret_bool HE.out,(Grown.refl _).alloc _⟩
set_option maxHeartbeats 2000000 in
theorem punm_any (x:Tm) (w:World):Calls Tryz.prog 242 #[.agg (encM x).toArray] w fun e w'=>e=.returned (.bool (!rightM x))∧Grown w w':=by
 obtain ⟨a,o,t⟩:=x
 simp only [encM]
 by_cases h6:o=6∨o=7
 ·have HE:Hid ((!t.toList.isEmpty) = !rightM (a,o,t)):=by
   show _=_
   unfold rightM
   have e1:decide (1≤o)=true:=decide_eq_true (by omega)
   have e2:decide (o≤7)=true:=decide_eq_true (by omega)
   have e3:decide (o<6)=false:=decide_eq_false (by omega)
   simp only [e1,e2,e3,Bool.true_and,Bool.false_or]
   congr 1
   by_cases hz:t.size=0
   ·rw [sempty_of hz,decide_eq_true hz]
   ·rw [sfull_of hz,decide_eq_false hz]
  rcases h6 with rfl|rfl
  ·go_enter Tryz.func242,Tryz.ntmps242
   go_wp2_with fail
   go_ret
   exact ⟨ret_bool HE.out,(Grown.refl _).alloc _⟩
  ·go_enter Tryz.func242,Tryz.ntmps242
   go_wp2_with fail
   go_ret
   exact ⟨ret_bool HE.out,(Grown.refl _).alloc _⟩
 ·by_cases h5:o=1∨o=2∨o=3∨o=4∨o=5
  ·have HE:Hid (false = !rightM (a,o,t)):=by
    show _=_
    unfold rightM
    have e1:decide (1≤o)=true:=decide_eq_true (by omega)
    have e2:decide (o≤7)=true:=decide_eq_true (by omega)
    have e3:decide (o<6)=true:=decide_eq_true (by omega)
    simp only [e1,e2,e3,Bool.true_and,Bool.true_or,Bool.not_true]
   rcases h5 with rfl|rfl|rfl|rfl|rfl <;>
   ·go_enter Tryz.func242,Tryz.ntmps242
    go_wp2_with fail
    go_ret
    exact ⟨ret_bool HE.out,(Grown.refl _).alloc _⟩
  ·have HE:Hid (true = !rightM (a,o,t)):=by
    show _=_
    unfold rightM
    by_cases e1:1≤o
    ·have e2:decide (o≤7)=false:=decide_eq_false (by omega)
     simp [e2]
    ·simp [e1]
   have n1:(o==1)=false:=by simp;omega
   have n2:(o==2)=false:=by simp;omega
   have n3:(o==3)=false:=by simp;omega
   have n4:(o==4)=false:=by simp;omega
   have n5:(o==5)=false:=by simp;omega
   have n6:(o==6)=false:=by simp;omega
   have n7:(o==7)=false:=by simp;omega
   clear h5 h6
   go_enter Tryz.func242,Tryz.ntmps242
   go_wp2_with fail
   go_ret
   exact ⟨ret_bool HE.out,(Grown.refl _).alloc _⟩
def Tf:Type:={ x:Tm // x.1.size≤maxLen∧x.2.2.size≤maxLen∧-9223372036854775808≤x.2.1∧x.2.1≤9223372036854775807 }
def tfNone:Tf:=⟨(⟨#[]⟩,0,⟨#[]⟩),Nat.zero_le _,Nat.zero_le _,by decide,by decide⟩
set_option maxHeartbeats 1000000 in
theorem hasM_none (p:Option Addr) (c:Nat) (fv:Value) (w:World) :
  Calls Tryz.prog 240 #[.slice p 0 c,fv] w fun e w'=>e=.returned (.bool false)∧w'=w:=by
 have hix:Calls Tryz.prog 317 #[.slice p 0 c,fv] w fun e w'=>e=.returned (.int .i64 (-1))∧w'=w:=by
  go_enter Tryz.func317,Tryz.ntmps317
  go_wp2_with fail
  refine wp_loop_rounds 1 ?_
  rw [rounds_succ]
  go_wp2_with fail
  go_ret
  exact ⟨rfl,rfl⟩
 have HX:=hid hix
 clear hix
 go_enter Tryz.func240,Tryz.ntmps240
 go_wp2_with (first|(go_at_call 317;refine HX.out.mono ?_;rintro e w1 ⟨rfl,rfl⟩))
 go_ret
 exact ⟨rfl,rfl⟩
theorem km_enc {w:World} {b off:Nat} {p:List Tm} (h:KM.At w b off p) (j:Nat) (hj:j<p.length) (i:Nat) (v:Value) (hv:(encM p[j])[i]? = some v):w.cell? ⟨b,off+j * 3+i,none⟩=some v:=h j hj i v hv
theorem hasM_any (f:Tm→Bool) (k:Nat) (lb:Array Value) (ent:∀args w,(callFunc k args).run Tryz.prog w=.ok (.enter k args) w) (v:Value) (p:List Tm) (w:World) (hv:KM.Is w v p) (hf:FitM p)
  (hk:∀(W:World) (x:Tm),Below w.heap.size w W→x.1.size≤maxLen→x.2.2.size≤maxLen→(-9223372036854775808≤x.2.1∧x.2.1≤9223372036854775807)→Calls Tryz.prog k (#[.agg (encM x).toArray]++lb) W fun e w'=>e=.returned (.bool (f x))∧Below w.heap.size w w') :
  Calls Tryz.prog 240 #[v,.func (.func k) #[] lb] w fun e w'=>e=.returned (.bool (p.any f))∧Below w.heap.size w w':=by
 obtain ⟨q,cap,rfl,hd⟩:=hv
 by_cases h0:p=[]
 ·subst h0
  refine (hasM_none q cap _ w).mono ?_
  rintro e w' ⟨rfl,rfl⟩
  exact ⟨rfl,Below.refl _ _⟩
 ·rcases hd with hd|⟨b,off,rfl,hx⟩
  ·exact absurd hd h0
  ·have hlen:0<p.length:=List.length_pos_iff.2 h0
   have hl:=hf.1
   unfold maxLen at hl
   have hfn:∀x∈p,x.1.size≤maxLen∧x.2.2.size≤maxLen∧-9223372036854775808≤x.2.1∧x.2.1≤9223372036854775807:=hf.2
   obtain ⟨zs,hzs⟩:∃zs:List Tf,zs.map (·.1)=p:=⟨p.attachWith _ hfn,List.attachWith_map_subtype_val ..⟩
   have hzl:zs.length=p.length:=by rw [←hzs,List.length_map]
   letI:Inhabited Tf:=⟨tfNone⟩
   have hc:=AnyQ.slices_ContainsFunc (α:=Tf) Tryz.hasTrm 3 Tryz.isAgg122 Tryz.sizeOf122 (fun x=>encM x.1) (fun _=>rfl) (fun x=>f x.1) k lb ent b off p.length cap zs w
    (fun W x hb=>hk W x.1 hb x.2.1 x.2.2.1 x.2.2.2) (by omega) (by omega) (cell_block (hx 0 hlen 0 _ rfl))
    (fun j hj i u hu=>by
     have hj':j<p.length:=by omega
     rw [getElem!_pos zs j hj] at hu
     have e:(zs[j]).1=p[j]:=by subst hzs;simp
     rw [e] at hu
     exact km_enc hx j hj' i u hu)
   change Calls Tryz.prog 240 _ _ _ at hc
   refine hc.mono ?_
   rintro e w' ⟨rfl,hb⟩
   refine ⟨ret_bool ?_,hb⟩
   rw [List.take_of_length_le (by omega),←hzs]
   simp [List.any_map,Function.comp_def]
theorem enters_pmis:∀args w,(callFunc 241 args).run Tryz.prog w=.ok (.enter 241 args) w:=enters_of Tryz.func241 (by kernel_rfl) rfl
theorem enters_punm:∀args w,(callFunc 242 args).run Tryz.prog w=.ok (.enter 242 args) w:=enters_of Tryz.func242 (by kernel_rfl) rfl
theorem enters_plong:∀args w,(callFunc 243 args).run Tryz.prog w=.ok (.enter 243 args) w:=enters_of Tryz.func243 (by kernel_rfl) rfl
theorem any_not (p:List Tm) (f:Tm→Bool):p.any (fun x=>!f x) = !p.all f:=by
 induction p with
 | nil=>rfl
 | cons x p ih=>simp only [List.any_cons,List.all_cons,ih,Bool.not_and]
theorem hasMis (v:Value) (p:List Tm) (w:World) (hv:KM.Is w v p) (hf:FitM p):Calls Tryz.prog 240 #[v,.func (.func 241) #[] #[]] w fun e w'=>e=.returned (.bool (!p.all namedM))∧Below w.heap.size w w':=by
 have:=hasM_any (fun x=>!namedM x) 241 #[] enters_pmis v p w hv hf (fun W x hb h1 _ _=>(pmis_any x W h1).mono fun _ _ ⟨h2,h3⟩=>⟨h2,hb.trans (h3.below.mono hb.size)⟩)
 rwa [any_not] at this
theorem hasUnm (v:Value) (p:List Tm) (w:World) (hv:KM.Is w v p) (hf:FitM p):Calls Tryz.prog 240 #[v,.func (.func 242) #[] #[]] w fun e w'=>e=.returned (.bool (!p.all rightM))∧Below w.heap.size w w':=by
 have:=hasM_any (fun x=>!rightM x) 242 #[] enters_punm v p w hv hf (fun W x hb _ _ _=>(punm_any x W).mono fun _ _ ⟨h2,h3⟩=>⟨h2,hb.trans (h3.below.mono hb.size)⟩)
 rwa [any_not] at this
theorem hasLng (v:Value) (p:List Tm) (w:World) (hv:KM.Is w v p) (hf:FitM p):Calls Tryz.prog 240 #[v,.func (.func 243) #[] #[]] w fun e w'=>e=.returned (.bool (!p.all shortM))∧Below w.heap.size w w':=by
 have:=hasM_any (fun x=>!shortM x) 243 #[] enters_plong v p w hv hf (fun W x hb _ _ _=>(plong_any x W).mono fun _ _ ⟨h2,h3⟩=>⟨h2,hb.trans (h3.below.mono hb.size)⟩)
 rwa [any_not] at this
set_option maxHeartbeats 2000000 in
set_option maxRecDepth 100000 in
theorem pmay_any (v:Value) (p:List Tm) (w:World) (hv:KM.Is w v p) (hf:FitM p) :
  Calls Tryz.prog 159 #[v] w fun e w'=>e=.returned (.int .i64 (mayM p))∧Below w.heap.size w w':=by
 obtain ⟨q,cap,hvv⟩:∃q cap,v=.slice q p.length cap:=by obtain ⟨q,cap,h,_⟩:=hv;exact ⟨q,cap,h⟩
 subst hvv
 have HV:=hid hv
 have HF:=hid hf
 have H1:=hid (hasMis _ p w hv hf)
 obtain ⟨m,hm⟩:∃m,mayM p=m:=⟨_,rfl⟩
 rw [hm]
 have HM:=hid hm
 clear hm hv hf
 unfold mayM at HM
 by_cases h8:8<p.length
 ·have h8z:(8:Int)<(p.length:Int):=by omega
  have HR:Hid (5=m):=by have:=HM.out;rw [if_pos h8] at this;exact this
  go_enter Tryz.func159,Tryz.ntmps159
  go_wp2_with fail
  go_ret
  exact ⟨ret_int HR.out,Below.refl _ _⟩
 ·have h8z:¬ (8:Int)<(p.length:Int):=by omega
  rw [if_neg h8] at HM
  cases a1:p.all namedM with
  | false =>
   rw [a1] at H1
   have HR:Hid (2=m):=by have:=HM.out;rw [if_pos a1] at this;exact this
   go_enter Tryz.func159,Tryz.ntmps159
   go_wp2_with (go_at_call 240;refine H1.out.mono ?_;rintro e w1 ⟨rfl,hb1⟩)
   go_ret
   exact ⟨ret_int HR.out,hb1⟩
  | true =>
   rw [a1] at H1
   rw [if_neg (by rw [a1];simp)] at HM
   have H2:Hid (∀W,Below w.heap.size w W→Calls Tryz.prog 240 #[.slice q p.length cap,.func (.func 242) #[] #[]] W fun e w'=>e=.returned (.bool (!p.all rightM))∧Below W.heap.size W w'):=fun W hb=>hasUnm _ p W (Kind.is_kept HV.out hb) HF.out
   have H3:Hid (∀W,Below w.heap.size w W→Calls Tryz.prog 240 #[.slice q p.length cap,.func (.func 243) #[] #[]] W fun e w'=>e=.returned (.bool (!p.all shortM))∧Below W.heap.size W w'):=fun W hb=>hasLng _ p W (Kind.is_kept HV.out hb) HF.out
   cases a2:p.all rightM with
   | false =>
    rw [a2] at H2
    have HR:Hid (1=m):=by have:=HM.out;rw [if_pos a2] at this;exact this
    go_enter Tryz.func159,Tryz.ntmps159
    go_wp2_with (first|(go_at_call 240;refine H1.out.mono ?_;rintro e w1 ⟨rfl,hb1⟩)|(go_at_call 240;refine (H2.out w1 hb1).mono ?_;rintro e w2 ⟨rfl,hb2⟩))
    go_ret
    exact ⟨ret_int HR.out,bel_then hb1 hb1.size hb2⟩
   | true =>
    rw [a2] at H2
    rw [if_neg (by rw [a2];simp)] at HM
    have h12:Hid (∀w1 w2,Below w.heap.size w w1→Below w1.heap.size w1 w2→Below w.heap.size w w2):=fun w1 w2 h k=>bel_then h h.size k
    cases a3:p.all shortM with
    | false =>
     rw [a3] at H3
     have HR:Hid (5=m):=by have:=HM.out;rw [if_pos a3] at this;exact this
     go_enter Tryz.func159,Tryz.ntmps159
     go_wp2_with (first|(go_at_call 240;refine H1.out.mono ?_;rintro e w1 ⟨rfl,hb1⟩)|(go_at_call 240;refine (H2.out w1 hb1).mono ?_;rintro e w2 ⟨rfl,hb2⟩;have hb12:=h12.out _ _ hb1 hb2)|(go_at_call 240;refine (H3.out w2 hb12).mono ?_;rintro e w3 ⟨rfl,hb3⟩))
     go_ret
     exact ⟨ret_int HR.out,bel_then hb12 hb12.size hb3⟩
    | true =>
     rw [a3] at H3
     have HR:Hid (0=m):=by have:=HM.out;rw [if_neg (by rw [a3];simp)] at this;exact this
     go_enter Tryz.func159,Tryz.ntmps159
     go_wp2_with (first|(go_at_call 240;refine H1.out.mono ?_;rintro e w1 ⟨rfl,hb1⟩)|(go_at_call 240;refine (H2.out w1 hb1).mono ?_;rintro e w2 ⟨rfl,hb2⟩;have hb12:=h12.out _ _ hb1 hb2)|(go_at_call 240;refine (H3.out w2 hb12).mono ?_;rintro e w3 ⟨rfl,hb3⟩))
     go_ret
     exact ⟨ret_int HR.out,bel_then hb12 hb12.size hb3⟩
theorem pcells {w:World} {b off:Nat} {p:List Tm} (h:KM.At w b off p) (j:Nat) (u:Value) (hu:(KM.cells p)[j]? = some u):w.cell? ⟨b,off+j,none⟩=some u:=by
 rcases Kind.src (K:=KM) (w:=w) (p:=some ⟨b,off,none⟩) (d:=p) (Or.inr ⟨b,off,rfl,h⟩) with h0|⟨ad,e,hc⟩
 ·obtain rfl:=List.length_eq_zero_iff.1 h0
  simp [Kind.cells] at hu
 ·cases e
  have:=hc j u hu
  rwa [addr_add] at this
set_option maxHeartbeats 2000000 in
set_option maxRecDepth 100000 in
theorem cloneM_any (v:Value) (p:List Tm) (w:World) (hv:KM.Is w v p) (hs:p.length * 40≤140737488355328) :
  Calls Tryz.prog 244 #[v] w fun e w'=>∃u,e=.returned u∧KM.Own w.heap.size w' u p∧Below w.heap.size w w':=by
 obtain ⟨i0,hi,hz0,hz1,hz2⟩:=info_parts Tryz.infoTrm
 obtain ⟨q,cap,rfl,hd⟩:=hv
 have q22:∀(w:World) (a:Option Addr) (n c n' c':Nat),(binOp .eql 41 (.slice a n c) (.slice none n' c')).run Tryz.prog w=.ok (.bool a.isNone) w:=fun w a n c n' c'=>Lib.run_eql_slice_nil w _ _ a n c n' c' Tryz.underlying41
 have HD:=hid hd
 clear hd
 cases q with
 | none =>
  have h0:p=[]:=by
   rcases HD.out with h|⟨b,off,h,_⟩
   ·exact h
   ·cases h
  subst h0
  go_enter Tryz.func244,Tryz.ntmps244
  go_wp2_with fail
  go_ret
  exact ⟨_,rfl,KM.own_nil _ _,Below.refl _ _⟩
 | some a =>
  have hcells:∀j u,(KM.cells p)[j]? = some u→(w.alloc (.cells #[] 122)).cell? (a.add j)=some u:=by
   rcases HD.out with h|⟨b,off,h,hx⟩
   ·subst h;intro j u hj;simp [Kind.cells] at hj
   ·intro j u hj
    obtain rfl:a=⟨b,off,none⟩:=by simpa using h
    rw [addr_add]
    have:=pcells hx j u hj
    rw [World.cell?_alloc_lt _ _ ⟨b,off+j,none⟩ (cell_block this)];exact this
  have HC:=hid hcells
  clear hcells
  go_enter Tryz.func244,Tryz.ntmps244
  go_wp2_with (at_builtin;refine wpList_append_own _ rfl _ _ 41 rfl w.heap.size 122 i0 (.agg #[.string ⟨#[]⟩,.int .i64 0,.string ⟨#[]⟩]) 3 40 Tryz.underlying41 hi hz0 hz1 hz2 rfl (by decide) _ _ _ rfl (World.ownsRow_made w #[] 0 (Nat.le_refl _) (Nat.zero_le _) (by simp)) a p.length cap (KM.cells p) rfl ?c0 ?c1 ?c2 ?c3 ?c4 ?c5 ?_)
  case c0=>exact KM.cells_len p
  case c1=>exact HC.out
  case c2=>exact KM.cells_ones p
  case c3=>unfold maxLen;omega
  case c4=>omega
  case c5=>simp
  intro v' w1 hown hgrow hnil
  have hb1:Below w.heap.size w w1:=((Below.refl _ w).alloc (Nat.le_refl _) _).grown hgrow (by simp) (by intro k hk;simp [Value.ownBlock] at hk;omega)
  have HO:Hid (KM.Own w.heap.size w1 v' p):=hid (by show w1.ownsRow w.heap.size 122 3 v' p.length (KM.cells p);simpa using hown)
  clear hown hgrow hnil
  go_wp2_with fail
  go_ret
  exact ⟨_,rfl,HO.out,hb1⟩
set_option maxHeartbeats 2000000 in
theorem sortM_none (fv:Value) (w:World) :
  Calls Tryz.prog 245 #[.slice none 0 0,fv] w fun e w'=>e=.returned (.tuple #[])∧w'=w:=by
 have hi:∀W,Calls Tryz.prog 357 #[.slice none 0 0,.int .i64 0,.int .i64 0,fv] W fun e w'=>e=.returned (.tuple #[])∧w'=W:=fun W=>by
  go_enter Tryz.func357,Tryz.ntmps357
  go_wp2_with fail
  refine wp_loop_rounds 1 ?_
  rw [rounds_succ]
  go_wp2_with fail
  go_end0
  exact ⟨rfl,rfl⟩
 have HI:=hid hi
 clear hi
 have hp:∀(l:Int) W,Calls Tryz.prog 319 #[.slice none 0 0,.int .i64 0,.int .i64 0,.int .i64 l,fv] W fun e w'=>e=.returned (.tuple #[])∧w'=W:=fun l W=>by
  go_enter Tryz.func319,Tryz.ntmps319
  go_wp2_with fail
  refine wp_loop_rounds 1 ?_
  rw [rounds_succ]
  go_wp2_with (first|(go_at_call 357;refine (HI.out _).mono ?_;rintro e w1 ⟨rfl,rfl⟩))
  refine bodyPost_ret (results_none (h:=Tryz.results319) _ _ _) rfl ?_
  exact ⟨rfl,rfl⟩
 have HP:=hid hp
 clear hp
 go_enter Tryz.func245,Tryz.ntmps245
 go_wp2_with (first|(go_at_call 320;refine (Tryz.bits_Len 0 _ (by omega) (by omega)).mono ?_;rintro e w1 ⟨rfl,rfl⟩)|(go_at_call 319;refine (HP.out _ _).mono ?_;rintro e w1 ⟨rfl,rfl⟩))
 go_end0
 exact ⟨rfl,rfl⟩
set_option maxHeartbeats 1000000 in
theorem compM_none (w:World) :
  Calls Tryz.prog 247 #[.slice none 0 0] w fun e w'=>e=.returned (.slice none 0 0)∧w'=w:=by
 go_enter Tryz.func247,Tryz.ntmps247
 go_wp2_with fail
 go_ret
 exact ⟨rfl,rfl⟩
theorem sort_own (n0:Nat) (u:Value) (p:List Tm) (w:World) (h:KM.Own n0 w u p) (h0:n0≤w.heap.size) (h12:p.length≤12) :
  Calls Tryz.prog 245 #[u,.func (.func 246) #[] #[]] w fun e w' =>
   e=.returned (.tuple #[])∧∃d':Array Tm,d'.toList.Perm p∧SortedIn (ltOf cmpM) 0 d'.size d'∧KM.Own n0 w' u d'.toList∧Below n0 w w':=by
 rcases h.2 with ⟨rfl,hl⟩|⟨g,cap,cur,rfl,_⟩
 ·obtain rfl:=List.length_eq_zero_iff.1 hl
  refine (sortM_none _ w).mono ?_
  rintro e w' ⟨rfl,rfl⟩
  exact ⟨rfl,#[],List.Perm.refl _,fun i j _ _ hj=>absurd hj (Nat.not_lt_zero _),KM.own_nil _ _,Below.refl _ _⟩
 ·refine (sortM_rows n0 g p.length cap p w h rfl h0 h12).mono ?_
  rintro e w' ⟨rfl,d',_,h2,h3,h4,h5⟩
  exact ⟨rfl,d',h2,h3,h4,h5⟩
theorem comp_own (n0:Nat) (u:Value) (d:Array Tm) (w:World) (h:KM.Own n0 w u d.toList) (h0:n0≤w.heap.size) (h12:d.size≤12) :
  Calls Tryz.prog 247 #[u] w fun e w'=>∃u',e=.returned u'∧KM.Own n0 w' u' (compactUpTo d d.size)∧Below n0 w w':=by
 rcases h.2 with ⟨rfl,hl⟩|⟨g,cap,cur,rfl,_⟩
 ·have hz:d.size=0:=by simpa using hl
  refine (compM_none w).mono ?_
  rintro e w' ⟨rfl,rfl⟩
  refine ⟨_,rfl,?_,Below.refl _ _⟩
  rw [hz]
  exact KM.own_nil _ _
 ·refine (compact_any n0 g d.toList.length cap d w h (by simp) h0 (by simp;omega)).mono ?_
  rintro e w' ⟨rfl,h1,h2⟩
  exact ⟨_,rfl,h1,h2⟩
set_option maxHeartbeats 2000000 in
set_option maxRecDepth 100000 in
theorem pnorm_any (v:Value) (p:List Tm) (w:World) (hv:KM.Is w v p) (hf:FitM p) :
  Calls Tryz.prog 160 #[v] w fun e w'=>NMPost w p e w':=by
 have HM:=hid (pmay_any v p w hv hf)
 by_cases hm:mayM p=0
 ·have h8:=(mayM_zero hm).1
  have HA:Hid (ansM p=sortM p):=by show _=_;unfold ansM;rw [if_pos hm]
  rw [hm] at HM
  have HM0:=hid hm
  have HC:Hid (∀W:World,Below w.heap.size w W→Calls Tryz.prog 244 #[v] W fun e w'=>∃u,e=.returned u∧KM.Own W.heap.size w' u p∧Below W.heap.size W w'):=fun W hb=>cloneM_any v p W (Kind.is_kept hv hb) (by omega)
  clear hv hf hm
  go_enter Tryz.func160,Tryz.ntmps160
  go_wp2_with (first
   | (go_at_call 159;refine HM.out.mono ?_;rintro e w1 ⟨rfl,hb1⟩)
   | (go_at_call 244;refine (HC.out w1 hb1).mono ?_;rintro e w2 ⟨u2,rfl,ho2,hb2⟩;have HO2:=hid ho2;clear ho2)
   | (go_at_call 245;refine (sort_own w1.heap.size u2 p w2 HO2.out hb2.size (by omega)).mono ?_;rintro e w3 ⟨rfl,d3,hp3,hs3,ho3,hb3⟩;have HO3:=hid ho3;have HP3:=hid hp3;have HS3:=hid hs3;have hl3:d3.size≤8:=(by have:=HP3.out.length_eq;rw [Array.length_toList] at this;omega);clear ho3 hp3 hs3)
   | (go_at_call 247;refine (comp_own w1.heap.size u2 d3 w3 HO3.out (Nat.le_trans hb2.size hb3.size) (by omega)).mono ?_;rintro e w4 ⟨u4,rfl,ho4,hb4⟩;have HO4:=hid ho4;clear ho4))
  go_ret2
  refine ⟨⟨u4,by rw [HM0.out];rfl,?_⟩,?_⟩
  ·rw [HA.out]
   obtain ⟨r1,r2⟩:=compact_sorted HS3.out
   have e:=sortM_unique (p:=p) r1 (fun x=>(r2 x).trans HP3.out.mem_iff)
   rw [←e]
   exact Kind.own_weak HO4.out hb1.size
  ·exact ((hb1.trans (hb2.mono hb1.size)).trans (hb3.mono hb1.size)).trans (hb4.mono hb1.size)
 ·have hne:(mayM p != 0)=true:=by rw [bne_iff_ne];exact hm
  have HA:Hid (ansM p=[]):=by show _=_;unfold ansM;rw [if_neg hm]
  obtain ⟨M,hM⟩:∃M,mayM p=M:=⟨_,rfl⟩
  rw [hM] at HM hne
  have HMM:=hid hM
  clear hv hf hm hM
  go_enter Tryz.func160,Tryz.ntmps160
  go_wp2_with (first|(go_at_call 159;refine HM.out.mono ?_;rintro e w1 ⟨rfl,hb1⟩))
  go_ret2
  refine ⟨⟨.slice none 0 0,by rw [HMM.out];rfl,?_⟩,hb1⟩
  rw [HA.out]
  exact KM.own_nil _ _
theorem neqM_at:NeqAt Tryz.prog 122 (fun x:Tm=>.agg (encM x).toArray) (fun x y=>decide (x=y)) :=
 ⟨fun x y w=>neq_term x y w,GuardAt.agg (fun x:Tm=>(encM x).toArray) (by kernel_rfl)⟩
theorem allEq_decide:∀(p q:List Tm),Lib.allEq (fun x y=>decide (x=y)) p q=decide (p=q)
 | [],[]=>rfl
 | [],y::q=>by simp [Lib.allEq]
 | x::p,[]=>by simp [Lib.allEq]
 | x::p,y::q=>by
  have:=allEq_decide p q
  unfold Lib.allEq
  rw [this]
  by_cases h1:x=y<;>by_cases h2:p=q<;>simp [h1,h2]
set_option maxHeartbeats 1000000 in
theorem eqM_none1 (q1 q2:Option Addr) (c1 c2 m:Nat) (hm:m≤maxLen) (w:World) :
  Calls Tryz.prog 389 #[.slice q1 0 c1,.slice q2 m c2] w fun e w'=>e=.returned (.bool (decide (m=0)))∧w'=w:=by
 unfold maxLen at hm
 by_cases h0:m=0
 ·subst h0
  go_enter Tryz.func389,Tryz.ntmps389
  go_wp2_with fail
  refine wp_loop_rounds 1 ?_
  rw [rounds_succ]
  go_wp2_with fail
  go_ret
  exact ⟨rfl,rfl⟩
 ·have hz:((0:Int) != (m:Int))=true:=by simp;omega
  have hd:=decide_eq_false h0
  rw [hd]
  go_enter Tryz.func389,Tryz.ntmps389
  go_wp2_with fail
  go_ret
  exact ⟨rfl,rfl⟩
set_option maxHeartbeats 1000000 in
theorem eqM_none2 (q1 q2:Option Addr) (c1 c2 m:Nat) (hm:m≠0) (w:World) :
  Calls Tryz.prog 389 #[.slice q1 m c1,.slice q2 0 c2] w fun e w'=>e=.returned (.bool false)∧w'=w:=by
 have hz:((m:Int) != 0)=true:=by simp;omega
 go_enter Tryz.func389,Tryz.ntmps389
 go_wp2_with fail
 go_ret
 exact ⟨rfl,rfl⟩
theorem eqM_any (v u:Value) (p q:List Tm) (w:World) (hv:KM.Is w v p) (hu:KM.Is w u q) (hl1:p.length≤maxLen) (hl2:q.length≤maxLen) :
  Calls Tryz.prog 389 #[v,u] w fun e w'=>e=.returned (.bool (decide (p=q)))∧∃n,w'=w.drewN n:=by
 obtain ⟨a1,k1,rfl,hd1⟩:=hv
 obtain ⟨a2,k2,rfl,hd2⟩:=hu
 by_cases h1:p=[]
 ·subst h1
  refine (eqM_none1 a1 a2 k1 k2 q.length hl2 w).mono ?_
  rintro e w' ⟨rfl,rfl⟩
  refine ⟨ret_bool ?_,0,rfl⟩
  cases q<;>simp
 ·by_cases h2:q=[]
  ·subst h2
   refine (eqM_none2 a1 a2 k1 k2 p.length (fun e=>h1 (List.length_eq_zero_iff.1 e)) w).mono ?_
   rintro e w' ⟨rfl,rfl⟩
   exact ⟨ret_bool (by rw [decide_eq_false h1]),0,rfl⟩
  ·rcases hd1 with hd1|⟨b1,o1,rfl,x1⟩
   ·exact absurd hd1 h1
   ·rcases hd2 with hd2|⟨b2,o2,rfl,x2⟩
    ·exact absurd hd2 h2
    ·unfold maxLen at hl1 hl2
     have hc:=AnyQ.slices_Equal (α:=Tm) Tryz.eqTrm 3 Tryz.isAgg122 Tryz.sizeOf122 encM (fun _=>rfl) (fun x y=>decide (x=y)) neqM_at b1 o1 p.length k1 b2 o2 q.length k2 p q w (Nat.le_refl _) (Nat.le_refl _) (by omega) (by omega)
      (fun j hj i v hv=>by rw [getElem!_pos p j hj] at hv;exact km_enc x1 j hj i v hv) (fun j hj i v hv=>by rw [getElem!_pos q j hj] at hv;exact km_enc x2 j hj i v hv)
     change Calls Tryz.prog 389 _ _ _ at hc
     refine hc.mono ?_
     rintro e w' ⟨rfl,n,rfl⟩
     exact ⟨ret_bool (by rw [List.take_length,List.take_length,allEq_decide]),n,rfl⟩
set_option maxHeartbeats 1000000 in
theorem pequal_any (v u:Value) (p q:List Tm) (w:World) (hv:KM.Is w v p) (hu:KM.Is w u q) (hl1:p.length≤maxLen) (hl2:q.length≤maxLen) :
  Calls Tryz.prog 347 #[v,u] w fun e w'=>e=.returned (.bool (decide (p=q)))∧Below w.heap.size w w':=by
 have HE:=hid (eqM_any v u p q w hv hu hl1 hl2)
 clear hv hu
 go_enter Tryz.func347,Tryz.ntmps347
 go_wp2_with (go_at_call 389;refine HE.out.mono ?_;rintro e w1 ⟨rfl,n,rfl⟩)
 go_ret
 exact ⟨rfl,bel_drewN (Below.refl _ _) n⟩
end
section
open Go.RowKit
def QF:MadeK Fx where
 E N w f:=OwnT N w f.sl f.txt
 Blk f k:=f.sl.ownBlock=some k
 fr h f hP:=f.row h fun k hk=>hP k hk
 blk h k hk:=World.ownsRow.lt h k hk
 weak h hM:=own_weak h hM
def QR:MadeK Rx where
 E N w r:=KM.Own N w r.sl r.tm∧FitP r.tm
 Blk r k:=r.sl.ownBlock=some k
 fr h f hP:=⟨f.row h.1 fun k hk=>hP k hk,h.2⟩
 blk h k hk:=World.ownsRow.lt h.1 k hk
 weak h hM:=⟨Kind.own_weak h.1 hM,h.2⟩
theorem enters_ownF:∀args w,(callFunc 356 args).run Tryz.prog w=.ok (.enter 356 args) w:=enters_of Tryz.func356 (by kernel_rfl) rfl
theorem enters_ownR:∀args w,(callFunc 312 args).run Tryz.prog w=.ok (.enter 312 args) w:=enters_of Tryz.func312 (by kernel_rfl) rfl
set_option maxHeartbeats 4000000 in
set_option maxRecDepth 100000 in
theorem ownF_any (x:Fx) (w:World) (hx:x.at w) (hc:x.txt.length * 16≤140737488355328):Calls Tryz.prog 356 #[.agg (encX x).toArray] w fun e w'=>MadePost KX13 QF Fx.fld w (Fx.fld x) e w':=by
 obtain ⟨hbV,h1,h2,hs⟩:=two_boxes w (encX x).toArray #[.string ⟨#[]⟩,.slice none 0 0] 131 131
 obtain ⟨V,hV⟩:∃V,(w.alloc (.cells (encX x).toArray 131)).alloc (.cells #[.string ⟨#[]⟩,.slice none 0 0] 131)=V:=⟨_,rfl⟩
 obtain ⟨M,hM⟩:∃M,w.heap.size=M:=⟨_,rfl⟩
 rw [hV] at hbV h1 h2 hs
 rw [hM] at h1 h2 hs
 have HC:=hid (cloneT_any x.p x.cap x.txt V (hx.kept hbV) hc)
 have HB:=hid hbV
 clear hx hbV
 obtain ⟨xn,xp,xc,xm⟩:=x
 simp only [encX,Fx.sl] at *
 have HBX:Hid (∀W':World,Below V.heap.size V W'→W'.heap[M]? = some (.cells [.string xn,.slice xp xm.length xc].toArray 131 (0,0))∧W'.heap[M+1]? = some (.cells #[.string ⟨#[]⟩,.slice none 0 0] 131 (0,0))):=fun W' hW=>⟨(hW.block M (by omega)).trans h1,(hW.block (M+1) (by omega)).trans h2⟩
 have a1:V.cell? ⟨M,1,none⟩=some (.slice xp xm.length xc):=cz h1
 clear h1 h2
 go_enter Tryz.func356,Tryz.ntmps356
 go_wp2_with fail
 try rw [hV]
 try rw [hM]
 refine HC.out.mono ?_
 rintro e w1 ⟨u1,rfl,ho1,hb1⟩
 obtain ⟨p1,c1,rfl⟩:∃p c,u1=.slice p xm.length c:=own_slice ho1
 clear hV a1 HC
 obtain ⟨e1,e2⟩:=HBX.out w1 hb1
 obtain ⟨W1,hW1⟩:∃W1,w1.setCell ⟨M,1,none⟩ (.slice p1 xm.length c1)=W1:=⟨_,rfl⟩
 have q1:W1.heap[M]? = some (.cells #[.string xn,.slice p1 xm.length c1] 131 (0,0)):=by rw [←hW1];exact heap_setCell_same _ M 1 _ _ _ e1
 have q2:W1.heap[M+1]? = some (.cells #[.string ⟨#[]⟩,.slice none 0 0] 131 (0,0)):=by
  rw [←hW1]
  exact (heap_setCell_other _ _ (M+1) _ (by show M+1≠M;omega)).trans e2
 have hf1:Fr (fun b=>b=M) w1 W1:=by rw [←hW1];exact fr_set w1 M 1 _
 obtain ⟨W2,hW2⟩:∃W2,(W1.setCell ⟨M+1,0,none⟩ (.string xn)).setCell ⟨M+1,1,none⟩ (.slice p1 xm.length c1)=W2:=⟨_,rfl⟩
 have q3:W2.heap[M+1]? = some (.cells #[.string xn,.slice p1 xm.length c1] 131 (0,0)):=by
  rw [←hW2]
  exact heap_setCell_same _ (M+1) 1 _ _ _ (heap_setCell_same W1 (M+1) 0 _ _ _ q2)
 have hf2:Fr (fun b=>b=M∨b=M+1) w1 W2:=by
  rw [←hW2]
  exact (((hf1.mono fun k hk=>Or.inl hk).then (fr_set W1 (M+1) 0 _) fun k hk=>Or.inl (Or.inr hk)).then (fr_set _ (M+1) 1 _) fun k hk=>Or.inl (Or.inr hk))
 have HO:Hid (OwnT w.heap.size W2 (.slice p1 xm.length c1) xm):=by
  have h1:=hf2.row (show w1.ownsRow V.heap.size _ _ (.slice p1 xm.length c1) xm.length _ from ho1) fun k hk hp=>by
   have:=(World.ownsRow.lt (show w1.ownsRow V.heap.size _ _ (.slice p1 xm.length c1) xm.length _ from ho1) k hk).1
   omega
  exact own_weak h1 (by omega)
 have HB2:Hid (Below w.heap.size w W2):=(bel_then HB.out HB.out.size hb1).trans (hf2.below (by have:=hb1.size;omega) fun k hk=>by omega)
 have c1':w1.cell? ⟨M,1,none⟩=some (.slice xp xm.length xc):=cz e1
 have z1:=Lib.frozen_of_heap e1 1
 have d0:W1.cell? ⟨M,0,none⟩=some (.string xn):=cz q1
 have d1:W1.cell? ⟨M,1,none⟩=some (.slice p1 xm.length c1):=cz q1
 have k0:W1.cell? ⟨M+1,0,none⟩=some (.string ⟨#[]⟩):=cz q2
 have k1:W1.cell? ⟨M+1,1,none⟩=some (.slice none 0 0):=cz q2
 have y0:=Lib.frozen_of_heap q2 0
 have y1:=Lib.frozen_of_heap q2 1
 have HG:Hid (W2.cell? ⟨M+1,0,none⟩=some (.string xn)∧W2.cell? ⟨M+1,1,none⟩=some (.slice p1 xm.length c1)):=⟨by rw [Lib.cell_of_heap q3];rfl,by rw [Lib.cell_of_heap q3];rfl⟩
 clear e1 e2 q1 q2 q3 hf1 hf2 ho1 hb1 HBX
 go_upto_region 2 with fail
 try rw [hW1]
 clear c1' z1 hW1
 go_wp2_with fail
 try rw [hW2]
 obtain ⟨g0,g1⟩:=HG.out
 exact bodyPost_ret (v:=.agg #[.string xn,.slice p1 xm.length c1]) (by simp [results,Tryz.results356,go_sem,g0,g1]) rfl ⟨⟨xn,p1,c1,xm⟩,rfl,HO.out,rfl,HB2.out⟩
set_option maxHeartbeats 4000000 in
set_option maxRecDepth 100000 in
theorem ownR_any (x:Rx) (w:World) (hx:x.at w):Calls Tryz.prog 312 #[.agg (encRx x).toArray] w fun e w'=>MadePost KRx QR Rx.rg w (Rx.rg x) e w':=by
 obtain ⟨hbV,h1,h2,hs⟩:=two_boxes w (encRx x).toArray #[.string ⟨#[]⟩,.slice none 0 0] 125 125
 obtain ⟨V,hV⟩:∃V,(w.alloc (.cells (encRx x).toArray 125)).alloc (.cells #[.string ⟨#[]⟩,.slice none 0 0] 125)=V:=⟨_,rfl⟩
 obtain ⟨M,hM⟩:∃M,w.heap.size=M:=⟨_,rfl⟩
 rw [hV] at hbV h1 h2 hs
 rw [hM] at h1 h2 hs
 have HC:=hid (cloneM_any x.sl x.tm V (Kind.is_kept hx.1 hbV) hx.2.2)
 have HP:=hid hx.2
 have HB:=hid hbV
 clear hx hbV
 obtain ⟨xn,xp,xc,xm⟩:=x
 simp only [encRx,Rx.sl] at *
 have HBX:Hid (∀W':World,Below V.heap.size V W'→W'.heap[M]? = some (.cells [.string xn,.slice xp xm.length xc].toArray 125 (0,0))∧W'.heap[M+1]? = some (.cells #[.string ⟨#[]⟩,.slice none 0 0] 125 (0,0))):=fun W' hW=>⟨(hW.block M (by omega)).trans h1,(hW.block (M+1) (by omega)).trans h2⟩
 have a1:V.cell? ⟨M,1,none⟩=some (.slice xp xm.length xc):=cz h1
 clear h1 h2
 go_enter Tryz.func312,Tryz.ntmps312
 go_wp2_with fail
 try rw [hV]
 try rw [hM]
 refine HC.out.mono ?_
 rintro e w1 ⟨u1,rfl,ho1,hb1⟩
 obtain ⟨p1,c1,rfl⟩:∃p c,u1=.slice p xm.length c:=Kind.own_shape ho1
 clear hV a1 HC
 obtain ⟨e1,e2⟩:=HBX.out w1 hb1
 obtain ⟨W1,hW1⟩:∃W1,w1.setCell ⟨M,1,none⟩ (.slice p1 xm.length c1)=W1:=⟨_,rfl⟩
 have q1:W1.heap[M]? = some (.cells #[.string xn,.slice p1 xm.length c1] 125 (0,0)):=by rw [←hW1];exact heap_setCell_same _ M 1 _ _ _ e1
 have q2:W1.heap[M+1]? = some (.cells #[.string ⟨#[]⟩,.slice none 0 0] 125 (0,0)):=by
  rw [←hW1]
  exact (heap_setCell_other _ _ (M+1) _ (by show M+1≠M;omega)).trans e2
 have hf1:Fr (fun b=>b=M) w1 W1:=by rw [←hW1];exact fr_set w1 M 1 _
 obtain ⟨W2,hW2⟩:∃W2,(W1.setCell ⟨M+1,0,none⟩ (.string xn)).setCell ⟨M+1,1,none⟩ (.slice p1 xm.length c1)=W2:=⟨_,rfl⟩
 have q3:W2.heap[M+1]? = some (.cells #[.string xn,.slice p1 xm.length c1] 125 (0,0)):=by
  rw [←hW2]
  exact heap_setCell_same _ (M+1) 1 _ _ _ (heap_setCell_same W1 (M+1) 0 _ _ _ q2)
 have hf2:Fr (fun b=>b=M∨b=M+1) w1 W2:=by
  rw [←hW2]
  exact (((hf1.mono fun k hk=>Or.inl hk).then (fr_set W1 (M+1) 0 _) fun k hk=>Or.inl (Or.inr hk)).then (fr_set _ (M+1) 1 _) fun k hk=>Or.inl (Or.inr hk))
 have HO:Hid (KM.Own w.heap.size W2 (.slice p1 xm.length c1) xm):=by
  have h1:=hf2.row (show w1.ownsRow V.heap.size _ _ (.slice p1 xm.length c1) xm.length _ from ho1) fun k hk hp=>by
   have:=(World.ownsRow.lt (show w1.ownsRow V.heap.size _ _ (.slice p1 xm.length c1) xm.length _ from ho1) k hk).1
   omega
  exact own_weak h1 (by omega)
 have HB2:Hid (Below w.heap.size w W2):=(bel_then HB.out HB.out.size hb1).trans (hf2.below (by have:=hb1.size;omega) fun k hk=>by omega)
 have c1':w1.cell? ⟨M,1,none⟩=some (.slice xp xm.length xc):=cz e1
 have z1:=Lib.frozen_of_heap e1 1
 have d0:W1.cell? ⟨M,0,none⟩=some (.string xn):=cz q1
 have d1:W1.cell? ⟨M,1,none⟩=some (.slice p1 xm.length c1):=cz q1
 have k0:W1.cell? ⟨M+1,0,none⟩=some (.string ⟨#[]⟩):=cz q2
 have k1:W1.cell? ⟨M+1,1,none⟩=some (.slice none 0 0):=cz q2
 have y0:=Lib.frozen_of_heap q2 0
 have y1:=Lib.frozen_of_heap q2 1
 have HG:Hid (W2.cell? ⟨M+1,0,none⟩=some (.string xn)∧W2.cell? ⟨M+1,1,none⟩=some (.slice p1 xm.length c1)):=⟨by rw [Lib.cell_of_heap q3];rfl,by rw [Lib.cell_of_heap q3];rfl⟩
 clear e1 e2 q1 q2 q3 hf1 hf2 ho1 hb1 HBX
 go_upto_region 2 with fail
 try rw [hW1]
 clear c1' z1 hW1
 go_wp2_with fail
 try rw [hW2]
 obtain ⟨g0,g1⟩:=HG.out
 exact bodyPost_ret (v:=.agg #[.string xn,.slice p1 xm.length c1]) (by simp [results,Tryz.results312,go_sem,g0,g1]) rfl ⟨⟨xn,p1,c1,xm⟩,rfl,⟨HO.out,HP.out⟩,rfl,HB2.out⟩
theorem kx13_is {w:World} {v:Value} {d:List Fx} (h:IsXs w v d):KX13.Is w v d:=by
 obtain ⟨p,cap,rfl,h,_⟩:=h
 refine ⟨p,cap,rfl,h.imp id ?_⟩
 rintro ⟨b,off,hp,hx⟩
 refine ⟨b,off,hp,fun i hi j u hu=>?_⟩
 obtain ⟨h1,h2⟩:=hx i hi
 match j,hu with
 | 0,hu=>cases hu;exact h1
 | 1,hu=>cases hu;exact h2
 | j+2,hu=>simp [KX13,encX] at hu
theorem copyF_any (v:Value) (d:List Fx) (w:World) (hv:IsXs w v d) (hc:CopyX d) :
  Calls Tryz.prog 355 #[v,.func (.func 356) #[] #[]] w fun e w'=>∃u o,e=.returned u∧OwnJ w.heap.size w' u o∧o.map Fx.fld=d.map Fx.fld∧Below w.heap.size w w':=by
 refine (eachF_any QF Fx.fld _ enters_ownF v d w (kx13_is hv) hc.1 fun W x hW hx=>ownF_any x W ((hv.at_all x hx).kept hW) (hc.2 x hx)).mono ?_
 rintro e w' ⟨p,c,L,rfl,hst,hm⟩
 refine ⟨_,L,rfl,⟨⟨hst.row.own,fun x hx=>(hst.each x hx).1⟩,hst.apart.imp fun {a b} h=>?_⟩,hm,hst.row.bel⟩
 cases ha:a.sl.ownBlock with
 | none=>exact Or.inl rfl
 | some k=>exact Or.inr fun e=>h k ha e.symm
theorem copyR_any (v:Value) (l:List Rx) (w:World) (hv:KRx.Is w v l) (he:∀r∈l,r.at w) (hl:l.length * 40≤140737488355328) :
  Calls Tryz.prog 311 #[v,.func (.func 312) #[] #[]] w fun e w'=>EachPost KRx QR Rx.rg w (l.map Rx.rg) e w' :=
 eachR_any QR Rx.rg _ enters_ownR v l w hv hl fun W x hW hx=>ownR_any x W ((he x hx).on hW)
end
section
open Go.RowKit
def QC:MadeK Cx where
 E N w x:=COwn N w x
 Blk x k:=BlkCx x k
 fr h f hP:=h.fr f hP
 blk h k hk:=h.blk k hk
 weak h hM:=h.weak hM
theorem enters_ownC:∀args w,(callFunc 314 args).run Tryz.prog w=.ok (.enter 314 args) w:=enters_of Tryz.func314 (by kernel_rfl) rfl
set_option linter.unusedSimpArgs false in
set_option maxHeartbeats 8000000 in
set_option maxRecDepth 100000 in
theorem ownC_any (x:Cx) (w:World) (hx:CIn w x):Calls Tryz.prog 314 #[.agg (encCx x).toArray] w fun e w'=>MadePost KCx QC Cx.ch w x.ch e w':=by
 obtain ⟨hbV,h1,h2,hs⟩:=two_boxes w (encCx x).toArray #[.string ⟨#[]⟩,.string ⟨#[]⟩,.bool false,.slice none 0 0,.bool false,.slice none 0 0] 105 105
 obtain ⟨V,hV⟩:∃V,(w.alloc (.cells (encCx x).toArray 105)).alloc (.cells #[.string ⟨#[]⟩,.string ⟨#[]⟩,.bool false,.slice none 0 0,.bool false,.slice none 0 0] 105)=V:=⟨_,rfl⟩
 obtain ⟨G,hG⟩:∃G,w.heap.size=G:=⟨_,rfl⟩
 rw [hV] at hbV h1 h2 hs
 rw [hG] at h1 h2 hs
 have HBX:Hid (V.drew.heap[G]? = some (.cells #[.string x.a,.string x.b,.bool x.wl,.slice x.wp x.wo.length x.wc,.bool x.il,.slice x.ip x.io.length x.ic] 105 (0,0))):=h1
 have HZ:Hid (V.drew.heap[G+1]? = some (.cells #[.string ⟨#[]⟩,.string ⟨#[]⟩,.bool false,.slice none 0 0,.bool false,.slice none 0 0] 105 (0,0))):=h2
 have HVS:Hid (V.drew.heap.size=G+2):=hs
 have hsV:G<V.drew.heap.size:=(Array.getElem?_eq_some_iff.1 HBX.out).1
 have HBL:Hid (∀W',Fr (fun b=>b=G) V.drew W'→Below w.heap.size w W'):=fun W' f=>hbV.drew.trans (f.below hbV.drew.size fun k hk=>by omega)
 have HF1:Hid (∀W',Fr (fun b=>b=G) V.drew W'→Calls Tryz.prog 355 #[.slice x.wp x.wo.length x.wc,.func (.func 356) #[] #[]] W' fun e w'=>∃u o,e=.returned u∧OwnJ W'.heap.size w' u o∧o.map Fx.fld=x.wo.map Fx.fld∧Below W'.heap.size W' w'):=fun W' f=>copyF_any _ x.wo W' (hx.was.kept (HBL.out W' f)) hx.wcp
 have HF2:Hid (∀W',Fr (fun b=>b=G) V.drew W'→Calls Tryz.prog 355 #[.slice x.ip x.io.length x.ic,.func (.func 356) #[] #[]] W' fun e w'=>∃u o,e=.returned u∧OwnJ W'.heap.size w' u o∧o.map Fx.fld=x.io.map Fx.fld∧Below W'.heap.size W' w'):=fun W' f=>copyF_any _ x.io W' (hx.is.kept (HBL.out W' f)) hx.icp
 have HX:=hid hx
 clear hx hbV h1 h2 hs
 simp only [encCx] at *
 go_enter Tryz.func314,Tryz.ntmps314
 go_wp2_with fail
 try rw [hV]
 try rw [hG]
 clear hV
 have HG:=hid hG
 clear hG
 refine wp_region_held_drew (S:=fun _=>True) (by kernel_rfl) trivial (fun hHeld=>?_)
 refine tkv 0 (.pointer (some ⟨G,3,none⟩)) hHeld ?_
 simp only [Act.put,sz]
 refine tkv 3 (.pointer (some ⟨G,5,none⟩)) hHeld ?_
 simp only [Act.put,sz]
 clear hHeld
 refine wpAnyH_floats [2,5,7,8,9] [1,4,6] (fun a0 k fl a w'=>∃t1 t2 t3 t4 t5 t6,a=putS a0 [(4,t1),(5,t2),(7,t3),(8,t4),(9,t5),(10,t6)]∧ChSt13 V.drew G x (kk13 k) (fl.take 2) t1 t2 t3 t4 w'∧(fl[2]? = some true→t5=.pointer (some ⟨G,3,none⟩))∧(4≤k→t6=.pointer (some ⟨G,5,none⟩))) (by kernel_rfl) (by decide) ⟨_,_,_,_,_,_,(putS_self _ [4,5,7,8,9,10]).symm,ch13_start HBX.out _ _ _ _,(fun h=>by cases h),(fun h=>by omega)⟩ ?hS ?hmain ?halloc ?hend
 case hS =>
  intros
  trivial
 case hmain =>
  rintro k i' fl a w' hk hfl hrd ⟨t1,t2,t3,t4,t5,t6,rfl,hst,hp5,hp6⟩
  obtain ⟨f1,f2,f3,rfl⟩:∃f1 f2 f3,fl=[f1,f2,f3]:=by
   match fl,hfl with
   | [f1,f2,f3],_=>exact ⟨f1,f2,f3,rfl⟩
  rcases k with _|_|_|_|_|k
  ·obtain rfl:i'=2:=by simpa using hk.symm
   cases f1 with
   | false=>exact (not_ready hrd (by cases f2<;>cases f3<;>kernel_rfl)).elim
   | true =>
    obtain rfl:=hst.f1 rfl
    have HST:=hid hst
    have HP5:=hid hp5
    clear hst hrd hk hfl hp5 hp6
    refine ⟨_,at_drop0 rfl,fun K hK=>?_⟩
    simp only [putS,List.foldl_cons,List.foldl_nil,Act.put,sz]
    rw [if_pos (by rfl)]
    go_simp
    refine (HF1.out w' HST.out.fr).mono ?_
    rintro e w2 ⟨u,o,rfl,ho,hm,hb2⟩
    have HS2:=hid (ch13_call1 HST.out hsV hb2 ho hm)
    clear ho hm hb2
    go_wp2_with fail
    exact hK.out _ _ ⟨_,u,t3,t4,t5,t6,rfl,HS2.out,HP5.out,(fun h=>by omega)⟩
  ·obtain rfl:i'=5:=by simpa using hk.symm
   have h1:=hst.d1 (by decide)
   obtain rfl:f1=true:=by simpa using h1
   cases f2 with
   | false=>exact (not_ready hrd (by cases f3<;>kernel_rfl)).elim
   | true =>
    obtain rfl:=hst.f2 rfl
    have HST:=hid hst
    have HP5:=hid hp5
    clear hst hrd hk hfl h1 hp5 hp6
    refine ⟨_,at_drop0 rfl,fun K hK=>?_⟩
    simp only [putS,List.foldl_cons,List.foldl_nil,Act.put,sz]
    rw [if_pos (by rfl)]
    go_simp
    refine (HF2.out w' HST.out.fr).mono ?_
    rintro e w2 ⟨u,o,rfl,ho,hm,hb2⟩
    have HS2:=hid (ch13_call2 HST.out hsV hb2 ho hm)
    clear ho hm hb2
    go_wp2_with fail
    exact hK.out _ _ ⟨t1,t2,_,u,t5,t6,rfl,HS2.out,HP5.out,(fun h=>by omega)⟩
  ·obtain rfl:i'=7:=by simpa using hk.symm
   have h1:=hst.d1 (by decide)
   obtain rfl:f1=true:=by simpa using h1
   have h2:=hst.d2 (by decide)
   obtain rfl:f2=true:=by simpa using h2
   obtain ⟨o,q1,_⟩:=hst.c1 (by decide)
   obtain ⟨pu,cu,rfl⟩:=ownJ_slice q1
   have c0:w'.cell? ⟨G,3,none⟩=some (.slice x.wp x.wo.length x.wc):=by rw [Lib.cell_of_heap hst.box];rfl
   have z0:w'.frozen? ⟨G,3,none⟩=false:=Lib.frozen_of_heap hst.box 3
   have HS2:=hid (ch13_store1 hst hsV)
   cases f3 with
   | false=>exact (not_ready hrd (by kernel_rfl)).elim
   | true =>
   obtain rfl:=hp5 rfl
   clear hst hrd hk hfl h1 h2 q1 hp5 hp6
   refine ⟨_,at_drop0 rfl,fun K hK=>?_⟩
   simp only [putS,List.foldl_cons,List.foldl_nil,Act.put,sz]
   rw [if_pos (by rfl)]
   go_simp
   go_wp2_with fail
   exact hK.out _ _ ⟨t1,_,t3,t4,_,t6,rfl,HS2.out,(fun _=>rfl),(fun h=>by omega)⟩
  ·obtain rfl:i'=8:=by simpa using hk.symm
   have HST:=hid hst
   have HP5:=hid hp5
   clear hst hrd hk hfl hp5 hp6
   refine ⟨_,at_drop0 rfl,fun K hK=>?_⟩
   simp only [putS,List.foldl_cons,List.foldl_nil,Act.put,sz]
   rw [if_pos (by rfl)]
   go_simp
   go_wp2_with fail
   exact hK.out _ _ ⟨t1,t2,t3,t4,t5,_,rfl,HST.out,HP5.out,(fun _=>rfl)⟩
  ·obtain rfl:i'=9:=by simpa using hk.symm
   have h1:=hst.d1 (by decide)
   obtain rfl:f1=true:=by simpa using h1
   have h2:=hst.d2 (by decide)
   obtain rfl:f2=true:=by simpa using h2
   obtain ⟨o,_,_,q1⟩:=hst.c1 (by decide)
   obtain ⟨o',q2,_⟩:=q1 (by decide)
   obtain ⟨pu,cu,rfl⟩:=ownJ_slice q2
   have c0:w'.cell? ⟨G,5,none⟩=some (.slice x.ip x.io.length x.ic):=by rw [Lib.cell_of_heap hst.box];rfl
   have z0:w'.frozen? ⟨G,5,none⟩=false:=Lib.frozen_of_heap hst.box 5
   have HS2:=hid (ch13_store2 hst hsV)
   obtain rfl:=hp6 (by omega)
   have HP5:=hid hp5
   clear hst hrd hk hfl h1 h2 q1 q2 hp5 hp6
   refine ⟨_,at_drop0 rfl,fun K hK=>?_⟩
   simp only [putS,List.foldl_cons,List.foldl_nil,Act.put,sz]
   rw [if_pos (by rfl)]
   go_simp
   go_wp2_with fail
   exact hK.out _ _ ⟨t1,t2,t3,_,t5,_,rfl,HS2.out,HP5.out,(fun _=>rfl)⟩
  ·simp at hk
 case halloc =>
  rintro j i' k fl a w' hj hk hfl hf ⟨t1,t2,t3,t4,t5,t6,rfl,hst,hp5,hp6⟩
  have HP5:=hid hp5
  have HP6:=hid hp6
  clear hp5 hp6
  obtain ⟨f1,f2,f3,rfl⟩:∃f1 f2 f3,fl=[f1,f2,f3]:=by
   match fl,hfl with
   | [f1,f2,f3],_=>exact ⟨f1,f2,f3,rfl⟩
  rcases j with _|_|_|j
  ·obtain rfl:i'=1:=by simpa using hj.symm
   obtain rfl:f1=false:=by simpa using hf
   have hk0:kk13 k=0:=by
    rcases Nat.eq_zero_or_pos (kk13 k) with h|h
    ·exact h
    ·have:=hst.d1 h
     simp at this
   rw [hk0] at hst
   have HK0:=hid hk0
   clear hk0
   have c0:w'.cell? ⟨G,3,none⟩=some (.slice x.wp x.wo.length x.wc):=by rw [Lib.cell_of_heap hst.box];rfl
   have HS2:=hid (ch13_load1 hst)
   clear hst hf hj hk hfl
   refine ⟨_,at_drop0 rfl,fun K hK=>?_⟩
   simp only [putS,List.foldl_cons,List.foldl_nil,Act.put,sz]
   rw [if_pos (by rfl)]
   go_simp
   go_wp2_with fail
   exact hK.out _ _ ⟨_,t2,t3,t4,t5,t6,rfl,by rw [HK0.out];exact HS2.out,HP5.out,HP6.out⟩
  ·obtain rfl:i'=4:=by simpa using hj.symm
   obtain rfl:f2=false:=by simpa using hf
   have hk0:¬ 4≤kk13 k:=fun h=>by
    have:=hst.d2 (by omega)
    simp at this
   have c0:w'.cell? ⟨G,5,none⟩=some (.slice x.ip x.io.length x.ic):=by
    rw [Lib.cell_of_heap hst.box,if_neg hk0];rfl
   have HS2:=hid (ch13_load2 hst)
   clear hst hf hj hk hfl hk0
   refine ⟨_,at_drop0 rfl,fun K hK=>?_⟩
   simp only [putS,List.foldl_cons,List.foldl_nil,Act.put,sz]
   rw [if_pos (by rfl)]
   go_simp
   go_wp2_with fail
   exact hK.out _ _ ⟨t1,t2,_,t4,t5,t6,rfl,HS2.out,HP5.out,HP6.out⟩
  ·obtain rfl:i'=6:=by simpa using hj.symm
   have HST:=hid hst
   clear hst hf hj hk hfl
   refine ⟨_,at_drop0 rfl,fun K hK=>?_⟩
   simp only [putS,List.foldl_cons,List.foldl_nil,Act.put,sz]
   rw [if_pos (by rfl)]
   go_simp
   go_wp2_with fail
   exact hK.out _ _ ⟨t1,t2,t3,t4,_,t6,rfl,HST.out,(fun _=>rfl),HP6.out⟩
  ·simp at hj
 case hend =>
  rintro a w3 ⟨t1,t2,t3,t4,t5,t6,rfl,hst,_,_⟩
  obtain ⟨o,q1,q2,q3⟩:=hst.c1 (by decide)
  obtain ⟨o',q4,q5,q6⟩:=q3 (by decide)
  obtain ⟨pu,cu,rfl⟩:=ownJ_slice q1
  obtain ⟨pv,cv,rfl⟩:=ownJ_slice q4
  have hbx:w3.heap[G]? = some (.cells #[.string x.a,.string x.b,.bool x.wl,.slice pu o.length cu,.bool x.il,.slice pv o'.length cv] 105 (0,0)):=hst.box
  have hz3:w3.heap[G+1]? = some (.cells #[.string ⟨#[]⟩,.string ⟨#[]⟩,.bool false,.slice none 0 0,.bool false,.slice none 0 0] 105 (0,0)):=(hst.fr.block (G+1) (by rw [HVS.out];omega) (by omega)).trans HZ.out
  obtain ⟨W4,hW4⟩:∃W4,((((((w3.setCell ⟨G+1,0,none⟩ (.string x.a)).setCell ⟨G+1,1,none⟩ (.string x.b)).setCell ⟨G+1,2,none⟩ (.bool x.wl)).setCell ⟨G+1,3,none⟩ (.slice pu o.length cu)).setCell ⟨G+1,4,none⟩ (.bool x.il)).setCell ⟨G+1,5,none⟩ (.slice pv o'.length cv))=W4:=⟨_,rfl⟩
  have hz4:W4.heap[G+1]? = some (.cells #[.string x.a,.string x.b,.bool x.wl,.slice pu o.length cu,.bool x.il,.slice pv o'.length cv] 105 (0,0)):=by
   rw [←hW4]
   exact heap_setCell_same _ (G+1) 5 _ _ _ (heap_setCell_same _ (G+1) 4 _ _ _ (heap_setCell_same _ (G+1) 3 _ _ _ (heap_setCell_same _ (G+1) 2 _ _ _ (heap_setCell_same _ (G+1) 1 _ _ _ (heap_setCell_same _ (G+1) 0 _ _ _ (hz3))))))
  have hf4:Fr (fun b=>b=G+1) w3 W4:=by
   rw [←hW4]
   exact ((((((fr_set w3 (G+1) 0 _).then (fr_set _ (G+1) 1 _) fun k hk=>Or.inl hk).then (fr_set _ (G+1) 2 _) fun k hk=>Or.inl hk).then (fr_set _ (G+1) 3 _) fun k hk=>Or.inl hk).then (fr_set _ (G+1) 4 _) fun k hk=>Or.inl hk).then (fr_set _ (G+1) 5 _) fun k hk=>Or.inl hk)
  have HY:Hid (COwn w.heap.size W4 ⟨x.a,x.b,x.wl,pu,cu,o,x.il,pv,cv,o'⟩∧Below w.heap.size w W4∧o.map Fx.fld=x.wo.map Fx.fld∧o'.map Fx.fld=x.io.map Fx.fld):=by
   have hVs:=HVS.out
   have hc:COwn V.drew.heap.size w3 ⟨x.a,x.b,x.wl,pu,cu,o,x.il,pv,cv,o'⟩:=⟨q1,q4,fit_same13 q2 HX.out.wfit,fit_same13 q5 HX.out.ifit,q6,copyX_same13 q2 HX.out.wcp,copyX_same13 q5 HX.out.icp⟩
   refine ⟨(hc.fr hf4 fun k hk hp=>by have:=(hc.blk k hk).1;omega).weak (by rw [HG.out];omega),(HBL.out w3 hst.fr).trans (hf4.below (HBL.out w3 hst.fr).size fun k hk=>by rw [HG.out];omega),q2,q5⟩
  have d0:w3.cell? ⟨G,0,none⟩=some (.string x.a):=cz hbx
  have d1:w3.cell? ⟨G,1,none⟩=some (.string x.b):=cz hbx
  have d2:w3.cell? ⟨G,2,none⟩=some (.bool x.wl):=cz hbx
  have d3:w3.cell? ⟨G,3,none⟩=some (.slice pu o.length cu):=cz hbx
  have d4:w3.cell? ⟨G,4,none⟩=some (.bool x.il):=cz hbx
  have d5:w3.cell? ⟨G,5,none⟩=some (.slice pv o'.length cv):=cz hbx
  have k0:w3.cell? ⟨G+1,0,none⟩=some (.string ⟨#[]⟩):=cz hz3
  have k1:w3.cell? ⟨G+1,1,none⟩=some (.string ⟨#[]⟩):=cz hz3
  have k2:w3.cell? ⟨G+1,2,none⟩=some (.bool false):=cz hz3
  have k3:w3.cell? ⟨G+1,3,none⟩=some (.slice none 0 0):=cz hz3
  have k4:w3.cell? ⟨G+1,4,none⟩=some (.bool false):=cz hz3
  have k5:w3.cell? ⟨G+1,5,none⟩=some (.slice none 0 0):=cz hz3
  have r0:=Lib.frozen_of_heap hz3 0
  have r1:=Lib.frozen_of_heap hz3 1
  have r2:=Lib.frozen_of_heap hz3 2
  have r3:=Lib.frozen_of_heap hz3 3
  have r4:=Lib.frozen_of_heap hz3 4
  have r5:=Lib.frozen_of_heap hz3 5
  have HE:Hid (W4.cell? ⟨G+1,0,none⟩=some (.string x.a)∧W4.cell? ⟨G+1,1,none⟩=some (.string x.b)∧W4.cell? ⟨G+1,2,none⟩=some (.bool x.wl)∧W4.cell? ⟨G+1,3,none⟩=some (.slice pu o.length cu)∧W4.cell? ⟨G+1,4,none⟩=some (.bool x.il)∧W4.cell? ⟨G+1,5,none⟩=some (.slice pv o'.length cv)):=⟨by rw [Lib.cell_of_heap hz4];rfl,by rw [Lib.cell_of_heap hz4];rfl,by rw [Lib.cell_of_heap hz4];rfl,by rw [Lib.cell_of_heap hz4];rfl,by rw [Lib.cell_of_heap hz4];rfl,by rw [Lib.cell_of_heap hz4];rfl⟩
  clear hst q1 q2 q3 q4 q5 q6 hbx hz3 hz4 hf4 HF1 HF2 HBX HZ
  simp only [putS,List.foldl_cons,List.foldl_nil,Act.put,sz]
  go_wp2_with fail
  try rw [hW4]
  obtain ⟨g0,g1,g2,g3,g4,g5⟩:=HE.out
  refine bodyPost_ret (v:=.agg #[.string x.a,.string x.b,.bool x.wl,.slice pu o.length cu,.bool x.il,.slice pv o'.length cv]) (by simp [results,Tryz.results314,go_sem,g0,g1,g2,g3,g4,g5]) rfl ⟨⟨x.a,x.b,x.wl,pu,cu,o,x.il,pv,cv,o'⟩,rfl,HY.out.1,?_,HY.out.2.1⟩
  simp only [Cx.ch,HY.out.2.2.1,HY.out.2.2.2]
theorem copyC_any (v:Value) (l:List Cx) (w:World) (hv:ChgIn w v l) (hl:l.length * 96≤140737488355328) :
  Calls Tryz.prog 313 #[v,.func (.func 314) #[] #[]] w fun e w'=>EachPost KCx QC Cx.ch w (l.map Cx.ch) e w' :=
 eachC_any QC Cx.ch _ enters_ownC v l w hv.is hl fun W x hW hx=>ownC_any x W ((hv.each x hx).on hW)
end
section
open Go.RowKit
def OwnPost (W:World) (r:Rx) (e:Ending) (w':World):Prop :=
 ∃p c,e=.returned (.agg #[.string r.typ,.slice p r.tm.length c])∧KM.Own W.heap.size w' (.slice p r.tm.length c) r.tm∧Below W.heap.size W w'
set_option maxHeartbeats 4000000 in
set_option maxRecDepth 100000 in
theorem mown12_any (r:Rx) (w:World) (hr:r.at w):Calls Tryz.prog 221 #[.agg (encRx r).toArray] w fun e w'=>OwnPost w r e w':=by
 obtain ⟨hbV,h1,h2,hs⟩:=two_boxes w (encRx r).toArray #[.string ⟨#[]⟩,.slice none 0 0] 125 125
 obtain ⟨V,hV⟩:∃V,(w.alloc (.cells (encRx r).toArray 125)).alloc (.cells #[.string ⟨#[]⟩,.slice none 0 0] 125)=V:=⟨_,rfl⟩
 obtain ⟨M,hM⟩:∃M,w.heap.size=M:=⟨_,rfl⟩
 rw [hV] at hbV h1 h2 hs
 rw [hM] at h1 h2 hs
 have HC:=hid (cloneM_any r.sl r.tm V.drew (Kind.is_kept hr.1 hbV.drew) hr.2.2)
 have HB:=hid hbV
 have HBX:Hid (∀W':World,Below V.heap.size V W'→(W'.cell? ⟨M,0,none⟩=some (.string r.typ)∧W'.cell? ⟨M,1,none⟩=some r.sl)∧(W'.cell? ⟨M+1,0,none⟩=some (.string ⟨#[]⟩)∧W'.cell? ⟨M+1,1,none⟩=some (.slice none 0 0))∧W'.frozen? ⟨M+1,0,none⟩=false∧W'.frozen? ⟨M+1,1,none⟩=false):=fun W' hW=>by
  have e1:=(hW.block M (by omega)).trans h1
  have e2:=(hW.block (M+1) (by omega)).trans h2
  exact ⟨⟨by rw [Lib.cell_of_heap e1];rfl,by rw [Lib.cell_of_heap e1];rfl⟩,⟨by rw [Lib.cell_of_heap e2];rfl,by rw [Lib.cell_of_heap e2];rfl⟩,Lib.frozen_of_heap e2 0,Lib.frozen_of_heap e2 1⟩
 obtain ⟨⟨a0,a1⟩,_,_⟩:=HBX.out V (Below.refl _ _)
 clear hr hbV h1 h2
 obtain ⟨rt,rp,rc,rm⟩:=r
 simp only [encRx,Rx.sl] at *
 go_enter Tryz.func221,Tryz.ntmps221
 go_wp2_with fail
 try rw [hV]
 try rw [hM]
 clear hV
 refine wp_region_held_drew (S:=fun w'=>w'.cell? ⟨M,0,none⟩=some (.string rt)∧w'.cell? ⟨M,1,none⟩=some (.slice rp rm.length rc)) (by kernel_rfl) ⟨a0,a1⟩ (fun hHeld=>?_)
 refine tkv 0 (.pointer (some ⟨M,0,none⟩)) hHeld ?_
 simp only [Act.put,sz]
 refine tkv 1 (.string rt) hHeld ?_
 simp only [Act.put,sz]
 refine tkv 2 (.pointer (some ⟨M,1,none⟩)) hHeld ?_
 simp only [Act.put,sz]
 refine tkv 3 (.slice rp rm.length rc) hHeld ?_
 simp only [Act.put,sz]
 clear hHeld a0 a1
 refine wpAnyH_ready (rs:=[4]) (by kernel_rfl) (by simp) ?_
 refine AllReadyH.cons (at_drop0 rfl) (fun K hK=>?_) AllReadyH.nil
 rw [if_pos (by rfl)]
 go_simp
 refine HC.out.mono ?_
 rintro e w1 ⟨u1,rfl,ho1,hb1⟩
 obtain ⟨p1,c1,rfl⟩:=Kind.own_shape ho1
 have hb1':Below V.heap.size V w1:=(bel_drewN (Below.refl _ _) 1).trans hb1
 obtain ⟨⟨a0,a1⟩,⟨q0,q1⟩,r0,r1⟩:=HBX.out w1 hb1'
 have HO1:Hid (KM.Own V.heap.size w1 (.slice p1 rm.length c1) rm):=ho1
 have HB1:=hid hb1'
 obtain ⟨W4,hW4⟩:∃W4,(w1.setCell ⟨M+1,0,none⟩ (.string rt)).setCell ⟨M+1,1,none⟩ (.slice p1 rm.length c1)=W4:=⟨_,rfl⟩
 have e0:W4.cell? ⟨M,0,none⟩=some (.string rt)∧W4.cell? ⟨M,1,none⟩=some (.slice rp rm.length rc):=by
  rw [←hW4]
  simp [go_sem,a0,a1]
 have g0:W4.cell? ⟨M+1,0,none⟩=some (.string rt):=by rw [←hW4];simp [go_sem,q0]
 have g1:W4.cell? ⟨M+1,1,none⟩=some (.slice p1 rm.length c1):=by rw [←hW4];simp [go_sem,q1]
 have HG:=hid (And.intro g0 g1)
 have HB4:Hid (Below w.heap.size w W4):=by
  rw [←hW4]
  have h3:=bel_then HB.out HB.out.size hb1'
  rw [hM] at h3 ⊢
  exact (h3.setCell (show M≤M+1 by omega) _).setCell (show M≤M+1 by omega) _
 have HK4:Hid (KM.Own w.heap.size W4 (.slice p1 rm.length c1) rm):=by
  rw [←hW4]
  exact Kind.own_weak (own_cell (own_cell HO1.out (by omega) _ _) (by omega) _ _) (by omega)
 clear ho1 hb1 hb1' HC g0 g1
 go_wp2_with fail
 refine hK.out _ _ (⟨a0,a1⟩) (fun hHeld=>?_)
 clear hK K
 try simp only [Act.put,sz]
 refine tkv 5 (.agg #[.string rt,.slice p1 rm.length c1]) hHeld ?_
 simp only [Act.put,sz]
 clear hHeld a0 a1
 refine wpAnyH_ready (rs:=[6]) (by kernel_rfl) (by simp) ?_
 refine AllReadyH.cons (at_drop0 rfl) (fun K hK=>?_) AllReadyH.nil
 rw [if_pos (by rfl)]
 go_simp
 go_wp2_with fail
 try rw [hW4]
 refine hK.out _ _ e0 (fun hHeld=>?_)
 clear hK K
 try simp only [Act.put,sz]
 refine wpAnyH_done (by kernel_rfl) ?_ _
 clear hHeld e0 q0 q1 r0 r1
 obtain ⟨g0,g1⟩:=HG.out
 go_wp2_with fail
 exact bodyPost_ret (v:=.agg #[.string rt,.slice p1 rm.length c1]) (by simp [results,Tryz.results221,go_sem,g0,g1]) rfl ⟨p1,c1,rfl,HK4.out,HB4.out⟩
theorem infoRx12:(Tryz.prog.info? 125).map (fun i=>(i.zero,i.size,i.bytes))=some (some (.agg #[.string ⟨#[]⟩,.slice none 0 0]),2,40):=by kernel_rfl
set_option maxHeartbeats 4000000 in
set_option maxRecDepth 100000 in
theorem mcopied12_any (v : Value) (l : List Rx) (w : World) (hv : KRx.Is w v l) (he : ∀ r ∈ l, r.at w) (hl : l.length ≤ 3518437208883) :
    Calls Tryz.prog 239 #[v] w fun e w' => RgPost w (l.map Rx.rg) e w' := by
  obtain ⟨i0, hi0, hz0, hz1, hz2⟩ := info_parts infoRx12
  have HI0 := hid hi0
  obtain ⟨p, cap, rfl, hd⟩ := hv
  have HD := hid hd
  have HE := hid he
  clear hd hi0 he
  go_enter Tryz.func239, Tryz.ntmps239
  go_wp2_with fail
  go_loopg [3, 8] l.length (fun gg v3 vi wr => ∃ (i : Nat) (L : List Rx) (p' : Option Addr) (c' : Nat), v3 = .slice p' L.length c' ∧ vi = .int .i64 i ∧ i ≤ l.length ∧ l.length - i ≤ gg ∧ L.length ≤ i ∧ Hid (RgSt w.heap.size w (.slice p' L.length c') L wr ∧ L.map Rx.rg = (l.take i).map Rx.rg))
  case atStart => exact ⟨0, [], none, 0, rfl, rfl, by omega, by omega, by simp, RgSt.nil (Below.refl _ _) (Nat.le_refl _), by simp⟩
  case round =>
    obtain ⟨i, L, p', c', rfl, rfl, hi, hgk, hLi, HS⟩ := hrel
    by_cases hlt : i < l.length
    · have hltz : (i : Int) < (l.length : Int) := by omega
      have hiz : (0 : Int) ≤ i := by omega
      obtain ⟨b1, o1, rfl, k1⟩ : ∃ b off, p = some ⟨b, off, none⟩ ∧ KRx.At w b off l := by
        rcases HD.out with h | h
        · rw [h] at hlt; simp at hlt
        · exact h
      have hbw : Below w.heap.size w wr := HS.out.1.row.bel
      obtain ⟨y0, y1⟩ := krx_at (Kind.at_kept k1 hbw) i hlt
      have hx := HE.out _ (List.getElem_mem hlt)
      have HTK : Hid ((l.take (i + 1)).map Rx.rg = (l.take i).map Rx.rg ++ [(l[i]).rg]) := by
        show _ = _
        rw [List.take_succ_eq_append_getElem hlt, List.map_append]
        rfl
      generalize l[i] = x at *
      obtain ⟨V, hV⟩ : ∃ V, wr.alloc (.cells #[.string x.typ, x.sl] 125) = V := ⟨_, rfl⟩
      have hbV : Below wr.heap.size wr V := by rw [← hV]; exact (Below.refl _ _).alloc (Nat.le_refl _) _
      have HO := hid (mown12_any x V (hx.on (bel_then hbw hbw.size hbV)))
      have HSV := hid (HS.out.1.on hbV)
      have HM := hid HS.out.2
      have HF := hid hx.2
      obtain ⟨xt, xp, xc, xm⟩ := x
      simp only [Rx.sl, encRx] at *
      obtain ⟨Q, hQ⟩ : ∃ Q, wr.heap.size = Q := ⟨_, rfl⟩
      have hn1 : V.heap[Q]? = some (.cells #[.string xt, .slice xp xm.length xc] 125 (0, 0)) := by rw [← hV, ← hQ]; exact heap_alloc_new wr _
      have d0 : V.cell? ⟨Q, 0, none⟩ = some (.string xt) := cz hn1
      have d1 : V.cell? ⟨Q, 1, none⟩ = some (.slice xp xm.length xc) := cz hn1
      clear k1 hbw hbV hx HS hn1
      go_upto_region 5 with fail
      try rw [hQ]
      try rw [hV]
      clear hV y0 y1
      go_wp2_with fail
      clear d0 d1
      refine HO.out.mono ?_
      rintro e w1 ⟨p1, c1, rfl, ho1, hb1⟩
      have hs1 := HSV.out.on hb1
      have hfr := HSV.out.fresh (x := ⟨xt, p1, c1, xm⟩) ho1
      have hN1 := HSV.out.row.base
      simp only at ho1 hb1
      obtain ⟨W1, hW1⟩ : ∃ W1, w1.alloc (.cells #[.string xt, .slice p1 xm.length c1] 125) = W1 := ⟨_, rfl⟩
      have hb2 : Below w1.heap.size w1 W1 := by rw [← hW1]; exact (Below.refl _ _).alloc (Nat.le_refl _) _
      have HN1 : Hid (W1.heap[w1.heap.size]? = some (.cells #[.string xt, .slice p1 xm.length c1] 125 (0, 0))) := by rw [← hW1]; exact heap_alloc_new w1 _
      have HS1 := hid (hs1.on hb2)
      have HX1 : Hid (KM.Own w.heap.size W1 (.slice p1 xm.length c1) xm) := Kind.own_weak (Kind.own_on ho1 hb2) hN1
      have HFR := hid hfr
      clear hs1 hfr hN1 ho1 hb1 hb2 HO HSV
      go_wp2_with (at_builtin; refine wpList_push KRx rfl _ _ 51 rfl i0 _ 40 Tryz.underlying51 HI0.out hz0 hz1 hz2 rfl w.heap.size w _ L rfl HS1.out.row ⟨xt, p1, c1, xm⟩ _ _ _ rfl rfl _ _ HN1.out (by unfold maxLen; omega) (by omega) ?_
                   intro g3 c3 w3 hst3 hg3 _
                   have HS3 := hid (HS1.out.push (x := ⟨xt, p1, c1, xm⟩) HX1.out HF.out HFR.out hst3 hg3)
                   clear hst3 hg3)
      go_roundg (l.length - (i + 1))
      case measure => omega
      exact ⟨i + 1, L ++ [⟨xt, p1, c1, xm⟩], some ⟨g3, 0, none⟩, c3, by rw [List.length_append]; rfl, by go_num, by omega, by omega, by rw [List.length_append, List.length_singleton]; omega, by rw [List.length_append]; exact HS3.out, by rw [HTK.out, List.map_append, HM.out]; rfl⟩
    · have hltz : ¬ (i : Int) < (l.length : Int) := by omega
      have hti : l.take i = l := List.take_of_length_le (by omega)
      rw [hti] at HS
      go_wp2_with fail
      go_ret
      exact ⟨p', c', L, rfl, HS.out.1, HS.out.2⟩
end
end Go.Proofs.YtmhlcnmfbolgdaaGreat
