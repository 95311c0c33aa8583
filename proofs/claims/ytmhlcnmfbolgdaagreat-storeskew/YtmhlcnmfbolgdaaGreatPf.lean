/-
  Texts of this claim, one behind the other: Yqa Yq7 Yqb Aq0 Qp0 Qp1 Qst Dlw Dst Vp0 Vp1 Vst Vp2 Vp3 Ws3 Ws4 Ws5 Ws6 Vp4.
-/
import Derived.Test.YtmhlcnmfbolgdaaGreatPe
import Derived.Laws.LoneSync
import Derived.Lib.MinMax
namespace Go.Proofs.YtmhlcnmfbolgdaaGreat
section
open Go.RowKit
def kqT13:Nat→Nat
 | 3=>1
 | 4=>2
 | 5=>2
 | 6=>3
 | _=>0
def TaSt (n0:Nat) (W U:World) (g:Nat) (x:Dn) (ds:List Dx) (va:Value) (c:Array Value) (k:Nat) (fl:List Bool) (u e s p a1 a2:Value) (w:World):Prop :=
 (k=0∧w=U∧(fl[0]? = some true→u=va)) ∨
 (1≤k∧∃y w1,e=.agg (encDx y).toArray∧(QD.E U.heap.size w1 y∧y.dn=x∧Below U.heap.size U w1)∧Pb KDx 177 n0 W y ds va g 1 c 220 w1 (kqT13 k) [fl.getD 0 false,decide (2≤k)] u s p w∧(3≤k→fl=[true])∧(4≤k→a1=.pointer (some ⟨g,0,none⟩))∧(5≤k→a2=.pointer (some ⟨g,1,none⟩)))
theorem is_off {α:Type} {K:Kind α} {w w':World} {v:Value} {d:List α} {g:Nat} (h:K.Is w v d) (hs:∀x,∃s,(K.enc x)[0]? = some (.string s)) (hg:∀j s,w.cell? ⟨g,j,none⟩≠some (.string s)) (f:Fr (fun b=>b=g) w w'):K.Is w' v d:=by
 obtain ⟨p,cap,rfl,h⟩:=h
 refine ⟨p,cap,rfl,?_⟩
 rcases h with h|⟨b,off,hp,h⟩
 ·exact Or.inl h
 ·by_cases h0:0<d.length
  ·refine Or.inr ⟨b,off,hp,fun i hi j u hu=>f.cell (h i hi j u hu) fun e=>?_⟩
   obtain ⟨s,hs⟩:=hs d[0]
   have e':b=g:=e
   rw [e'] at h
   exact hg _ s (h 0 h0 0 _ hs)
  ·exact Or.inl (List.eq_nil_of_length_eq_zero (by omega))
theorem xs_off {w w':World} {v:Value} {d:List Fx} {g:Nat} (h:IsXs w v d) (hg:∀j s,w.cell? ⟨g,j,none⟩≠some (.string s)) (f:Fr (fun b=>b=g) w w'):IsXs w' v d:=by
 obtain ⟨p,cap,rfl,h,ht⟩:=h
 refine ⟨p,cap,rfl,?_,fun x hx=>?_⟩
 ·rcases h with h|⟨b,off,hp,h⟩
  ·exact Or.inl h
  ·refine Or.inr ⟨b,off,hp,fun i hi=>?_⟩
   have hn:b≠g:=fun e=>by
    rw [e] at h
    exact hg _ _ (h i hi).1
   exact ⟨f.cell (h i hi).1 hn,f.cell (h i hi).2 hn⟩
 ·rcases ht x hx with h|⟨b,off,hp,h⟩
  ·exact Or.inl h
  ·refine Or.inr ⟨b,off,hp,fun i hi=>f.cell (h i hi) fun e=>?_⟩
   have e':b=g:=e
   rw [e'] at h
   exact hg _ _ (h i hi)
theorem DIn.off {W W':World} {x:Dx} {g:Nat} (h:DIn W x) (hg:∀j s,W.cell? ⟨g,j,none⟩≠some (.string s)) (f:Fr (fun b=>b=g) W W'):DIn W' x :=
 ⟨⟨is_off h.mrk.keys (fun _=>⟨_,rfl⟩) hg f,is_off h.mrk.rows (fun _=>⟨_,rfl⟩) hg f,fun r hr=>⟨is_off (h.mrk.each r hr).1 (fun _=>⟨_,rfl⟩) hg f,(h.mrk.each r hr).2⟩⟩,
  ⟨is_off h.chg.is (fun _=>⟨_,rfl⟩) hg f,fun c hc=>⟨xs_off (h.chg.each c hc).was hg f,(h.chg.each c hc).wfit,xs_off (h.chg.each c hc).is hg f,(h.chg.each c hc).ifit,(h.chg.each c hc).wcp,(h.chg.each c hc).icp⟩⟩,h.sz,h.snap,h.stamp⟩
theorem TrkM.nostr {n0:Nat} {W:World} {g:Nat} {t:Tk} {ds:List Dx} {va:Value} {last:Int} (h:TrkM n0 W g t ds va last):∀j s,W.cell? ⟨g,j,none⟩≠some (.string s):=fun j s e=>by
 obtain ⟨p,c,rfl⟩:=h.shape
 rw [Lib.cell_of_heap h.obj] at e
 match j,e with
 | 0,e=>cases e
 | 1,e=>cases e
 | 2,e=>cases e
 | 3,e=>cases e
 | j+4,e=>simp at e
theorem keepT_room {t:Tk} {d:Dn} (h:t.kept.length<t.most):keepT t d=⟨t.most,t.kept++[d],some d.stamp,t.sum⟩:=by
 unfold keepT
 rw [if_pos h]
theorem keepT_full {t:Tk} {d:Dn} (h:¬ t.kept.length<t.most) (s:Int) (hs:((t.kept++[d])[0]?).map Dn.stamp=some s):keepT t d=⟨t.most,(t.kept++[d]).drop 1,some d.stamp,max t.sum s⟩:=by
 unfold keepT
 rw [if_neg h]
 cases hk:t.kept with
 | nil =>
  rw [hk] at hs
  simp at hs
  subst hs
  rfl
 | cons x r =>
  rw [hk] at hs
  simp at hs
  subst hs
  rfl
def TAddPost (n0:Nat) (W:World) (g:Nat) (t:Tk) (ds:List Dx) (va:Value) (x:Dn) (e:Ending) (w':World):Prop :=
 e=.returned (.int .i64 (addT t x).1)∧TrkPost n0 W g ds va (addT t x).2 w'
set_option linter.unusedSimpArgs false in
set_option maxHeartbeats 16000000 in
set_option maxRecDepth 100000 in
theorem tadd_any {n0:Nat} {W:World} {g:Nat} {t:Tk} {ds:List Dx} {va:Value} {last:Int} (hR:TrkM n0 W g t ds va last) (hn0:n0≤W.heap.size) (x:Dx) (hx:DIn W x) :
  Calls Tryz.prog 153 #[.pointer (some ⟨g,0,none⟩),.agg (encDx x).toArray] W fun e w'=>TAddPost n0 W g t ds va x.dn e w':=by
 obtain ⟨i0,hi0,hz0,hz1,hz2⟩:=info_parts Tryz.infoDx13
 have HI0:=hid hi0
 clear hi0
 obtain ⟨pa,ca,rfl⟩:=hR.shape
 have hl:=hR.few
 obtain ⟨M,hM⟩:∃M,W.heap.size=M:=⟨_,rfl⟩
 obtain ⟨V,hV⟩:∃V,W.alloc (.cells (encDx x).toArray 177)=V:=⟨_,rfl⟩
 have hbV:Below W.heap.size W V:=by rw [←hV];exact (Below.refl _ _).alloc (Nat.le_refl _) _
 have hobj:V.heap[M]? = some (.cells (encDx x).toArray 177 (0,0)):=by rw [←hV,←hM];exact heap_alloc_new W _
 have hRV:=hR.on hbV
 have z3:V.cell? ⟨g,3,none⟩=some (.int .u64 last):=by rw [Lib.cell_of_heap hRV.obj];rfl
 have b1:V.cell? ⟨M,1,none⟩=some (.int .u64 x.stamp):=cz hobj
 have HOLD:Hid (oldT t x.dn=decide (x.stamp<last)):=by
  show _=_
  unfold oldT
  rcases hR.hlast with ⟨h1,h2⟩|h1
  ·rw [h1,h2]
   have h0:=hx.stamp.1
   rw [decide_eq_false (by omega)]
  ·rw [h1]
   rfl
 have HR:=hid hR
 have HB:=hid hbV
 have HOBJ:=hid hobj
 have HX:=hid hx
 have hst0:=hx.stamp
 have hsn:=hx.snap
 have HOKA:Hid (OkT (addT t x.dn).2):=ok_addT hR.ok x.dn hx.stamp.1
 obtain ⟨xs,xt,xo,⟨mkp,mkc,mks,mrp,mrc,mrs⟩,xcp,xcc,xcs⟩:=x
 simp only [encDx,Mx.ksl,Mx.rsl,Dx.csl] at *
 clear hR hRV hbV hobj hx
 go_enter Tryz.func153,Tryz.ntmps153
 go_upto_region 3 with fail
 try rw [hV]
 try rw [hM]
 clear hV
 have z3':V.drew.cell? ⟨g,3,none⟩=some (.int .u64 last):=z3
 have b1':V.drew.cell? ⟨M,1,none⟩=some (.int .u64 xt):=b1
 refine wp_region_held_drew (S:=fun w'=>w'.cell? ⟨g,3,none⟩=some (.int .u64 last)∧w'.cell? ⟨M,1,none⟩=some (.int .u64 xt)) (by kernel_rfl) ⟨z3',b1'⟩ (fun hHeld=>?_)
 refine tkv 0 (.pointer (some ⟨M,1,none⟩)) hHeld ?_
 simp only [Act.put,sz]
 refine tkv 1 (.int .u64 xt) hHeld ?_
 simp only [Act.put,sz]
 refine tkv 2 (.pointer (some ⟨g,0,none⟩)) hHeld ?_
 simp only [Act.put,sz]
 refine tkv 3 (.pointer (some ⟨g,0,none⟩)) hHeld ?_
 simp only [Act.put,sz]
 refine tkv 4 (.pointer (some ⟨g,3,none⟩)) hHeld ?_
 simp only [Act.put,sz]
 refine tkv 5 (.int .u64 last) hHeld ?_
 simp only [Act.put,sz]
 by_cases hold:xt<last
 ·rw [decide_eq_true hold] at HOLD
  refine tkv 6 (.bool true) hHeld ?_
  simp only [Act.put,sz]
  refine wpAnyH_done (by kernel_rfl) ?_ _
  clear hHeld z3 b1 z3' b1'
  have HP:Hid (TAddPost n0 W g t ds (.slice pa ds.length ca) (Dx.dn ⟨xs,xt,xo,⟨mkp,mkc,mks,mrp,mrc,mrs⟩,xcp,xcc,xcs⟩) (.returned (.int .i64 8)) V.drew):=by
   have e:addT t (Dx.dn ⟨xs,xt,xo,⟨mkp,mkc,mks,mrp,mrc,mrs⟩,xcp,xcc,xcs⟩)=(8,t):=by
    unfold addT
    rw [HOLD.out,if_pos rfl]
   unfold TAddPost
   rw [e]
   exact ⟨rfl,ds,_,last,HR.out.on HB.out.drew,Fr.of_below HB.out.drew,fun k hk=>Or.inl hk⟩
  go_wp2_with fail
  go_ret
  exact HP.out
 ·rw [decide_eq_false hold] at HOLD
  refine tkv 6 (.bool false) hHeld ?_
  simp only [Act.put,sz]
  refine wpAnyH_done (by kernel_rfl) ?_ _
  clear hHeld z3'
  have HADD:Hid (addT t (Dx.dn ⟨xs,xt,xo,⟨mkp,mkc,mks,mrp,mrc,mrs⟩,xcp,xcc,xcs⟩)=(0,keepT t (Dx.dn ⟨xs,xt,xo,⟨mkp,mkc,mks,mrp,mrc,mrs⟩,xcp,xcc,xcs⟩))):=by
   show _=_
   unfold addT
   rw [HOLD.out]
   rfl
  have hRV:=HR.out.on HB.out.drew
  have z3':V.drew.cell? ⟨g,3,none⟩=some (.int .u64 last):=z3
  have y3:=Lib.frozen_of_heap hRV.obj 3
  obtain ⟨wc,hwc⟩:∃wc,V.drew.setCell ⟨g,3,none⟩ (.int .u64 xt)=wc:=⟨_,rfl⟩
  have hgM:g<M:=by rw [←hM];exact HR.out.lt
  have hgo:wc.heap[g]? = some (.cells #[.int .i64 (t.most:Nat),.slice pa ds.length ca,.int .u64 t.sum,.int .u64 xt] 220 (0,0)):=by
   rw [←hwc]
   exact heap_setCell_same _ g 3 _ _ _ hRV.obj
  have fc:Fr (fun b=>b=g) V.drew wc:=by rw [←hwc];exact fr_set V.drew g 3 _
  have hset:=hRV.set 3 (.int .u64 xt)
  rw [hwc] at hset
  have hoC:wc.heap[M]? = some (.cells #[.int .u64 xs,.int .u64 xt,.bool xo,.slice mkp mks.length mkc,.slice mrp mrs.length mrc,.slice xcp xcs.length xcc] 177 (0,0)):=(fc.block M (Array.getElem?_eq_some_iff.1 HOBJ.out).1 (by omega)).trans HOBJ.out
  have HFC:Hid (Fr (fun b=>b=g) W wc):=(Fr.of_below HB.out.drew).then fc fun k hk=>Or.inl hk
  have hvM:∀b,(Value.slice pa ds.length ca).ownBlock=some b→n0≤b∧b<M∧b≠g:=fun b hb=>by
   have h1:=World.ownsRow.lt (show W.ownsRow n0 KDx.T KDx.k (.slice pa ds.length ca) ds.length (KDx.cells ds) from HR.out.all) b hb
   exact ⟨h1.1,by omega,HR.out.row_ne b hb⟩
  have HVM:=hid hvM
  have hg0:n0≤g:=HR.out.low
  obtain ⟨U,hU⟩:∃U,wc.drew=U:=⟨_,rfl⟩
  have hoU:U.heap[M]? = some (.cells #[.int .u64 xs,.int .u64 xt,.bool xo,.slice mkp mks.length mkc,.slice mrp mrs.length mrc,.slice xcp xcs.length xcc] 177 (0,0)):=by rw [←hU];exact hoC
  have hMU:M<U.heap.size:=(Array.getElem?_eq_some_iff.1 hoU).1
  have hfU:Fr (fun b=>b=g) W U:=by rw [←hU];exact HFC.out.then (Fr.of_below (P:=fun _=>False) (Below.refl _ wc).drew) fun _ h=>h.elim
  have hsU:M≤U.heap.size:=by rw [←hM];exact hfU.size
  have HFU:=hid hfU
  have HOU:=hid hoU
  have HRW:Hid (∀w1,Below U.heap.size U w1→RowSt KDx n0 W (.slice pa ds.length ca) ds w1∧w1.heap[g]? = some (.cells #[.int .i64 (t.most:Nat),.slice pa ds.length ca,.int .u64 t.sum,.int .u64 xt] 220 (0,0))):=fun w1 hw=>by
   rw [←hU] at hw
   have hw':Below wc.heap.size wc w1:=(Below.refl _ wc).drew.trans hw
   have hbW:Below n0 W w1:=(HFC.out.below hn0 fun k hk=>by omega).trans (hw'.mono (by have:=HFC.out.size;omega))
   exact ⟨⟨Kind.own_on hset.1 hw',hbW,by have:=hw'.size;have:=HFC.out.size;omega⟩,(hw'.block g (Array.getElem?_eq_some_iff.1 hgo).1).trans hgo⟩
  have HSS:Hid (∀k fl u e s p a1 a2 w',TaSt n0 W U g (Dx.dn ⟨xs,xt,xo,⟨mkp,mkc,mks,mrp,mrc,mrs⟩,xcp,xcc,xcs⟩) ds (.slice pa ds.length ca) #[.int .i64 (t.most:Nat),.slice pa ds.length ca,.int .u64 t.sum,.int .u64 xt] k fl u e s p a1 a2 w'→w'.heap[M]? = some (.cells #[.int .u64 xs,.int .u64 xt,.bool xo,.slice mkp mks.length mkc,.slice mrp mrs.length mrc,.slice xcp xcs.length xcc] 177 (0,0))):=fun k fl u e s p a1 a2 w' h=>by
   rcases h with ⟨_,rfl,_⟩|⟨_,y,w1,_,⟨_,_,hb⟩,hpb,_⟩
   ·exact HOU.out
   ·have f:=pb_fr hpb
    refine (f.block M (by have:=hb.size;omega) fun h=>?_).trans ((hb.block M hMU).trans HOU.out)
    rcases h with h|h
    ·omega
    ·have:=HVM.out M h
     omega
  have hdn:Calls Tryz.prog 235 #[.agg #[.int .u64 xs,.int .u64 xt,.bool xo,.slice mkp mks.length mkc,.slice mrp mrs.length mrc,.slice xcp xcs.length xcc]] U fun e w'=>∃y:Dx,e=.returned (.agg (encDx y).toArray)∧QD.E U.heap.size w' y∧y.dn=(Dx.dn ⟨xs,xt,xo,⟨mkp,mkc,mks,mrp,mrc,mrs⟩,xcp,xcc,xcs⟩)∧Below U.heap.size U w':=by
   have hin:DIn wc ⟨xs,xt,xo,⟨mkp,mkc,mks,mrp,mrc,mrs⟩,xcp,xcc,xcs⟩:=(HX.out.on HB.out.drew).off hRV.nostr fc
   rw [←hU]
   exact ownD_any _ _ (hin.on (Below.refl _ wc).drew)
  have HD1:=hid hdn
  have HES:Hid (∀d∈ds,QD.E n0 wc d):=hset.2
  clear hdn hfU hoU hvM hRV hset hoC fc hgo
  go_upto_region 6 with fail
  try rw [hwc]
  clear z3 b1 z3' b1' y3
  refine wp_region_held_drew (S:=fun w'=>w'.cell? ⟨M,0,none⟩=some (.int .u64 xs)∧w'.cell? ⟨M,1,none⟩=some (.int .u64 xt)∧w'.cell? ⟨M,2,none⟩=some (.bool xo)∧w'.cell? ⟨M,3,none⟩=some (.slice mkp mks.length mkc)∧w'.cell? ⟨M,4,none⟩=some (.slice mrp mrs.length mrc)∧w'.cell? ⟨M,5,none⟩=some (.slice xcp xcs.length xcc)) (by kernel_rfl) (by rw [hU];have:=HOU.out;exact ⟨by rw [Lib.cell_of_heap this];rfl,by rw [Lib.cell_of_heap this];rfl,by rw [Lib.cell_of_heap this];rfl,by rw [Lib.cell_of_heap this];rfl,by rw [Lib.cell_of_heap this];rfl,by rw [Lib.cell_of_heap this];rfl⟩) (fun hHeld=>?_)
  refine tkv 0 (.pointer (some ⟨g,0,none⟩)) hHeld ?_
  simp only [Act.put,sz]
  refine tkv 1 (.pointer (some ⟨g,0,none⟩)) hHeld ?_
  simp only [Act.put,sz]
  refine tkv 2 (.pointer (some ⟨g,0,none⟩)) hHeld ?_
  simp only [Act.put,sz]
  refine tkv 3 (.pointer (some ⟨g,1,none⟩)) hHeld ?_
  simp only [Act.put,sz]
  refine tkv 5 (.agg #[.int .u64 xs,.int .u64 xt,.bool xo,.slice mkp mks.length mkc,.slice mrp mrs.length mrc,.slice xcp xcs.length xcc]) hHeld ?_
  simp only [Act.put,sz]
  clear hHeld
  rw [hU]
  refine wpAnyH_floats [6,7,8,9,10,11] [4] (fun a0 k fl a w'=>∃u e s p a1 a2,a=putS a0 [(23,u),(25,e),(26,s),(27,p),(28,a1),(29,a2)]∧TaSt n0 W U g (Dx.dn ⟨xs,xt,xo,⟨mkp,mkc,mks,mrp,mrc,mrs⟩,xcp,xcc,xcs⟩) ds (.slice pa ds.length ca) #[.int .i64 (t.most:Nat),.slice pa ds.length ca,.int .u64 t.sum,.int .u64 xt] k fl u e s p a1 a2 w') (by kernel_rfl) (by decide) ⟨_,_,_,_,_,_,(putS_self _ [23,25,26,27,28,29]).symm,Or.inl ⟨rfl,rfl,fun h=>by cases h⟩⟩ ?hS ?hmain ?halloc ?hend
  case hS =>
   rintro k fl a w' ⟨u,e,s,p,a1,a2,_,h⟩
   have:=HSS.out _ _ _ _ _ _ _ _ _ h
   exact ⟨by rw [Lib.cell_of_heap this];rfl,by rw [Lib.cell_of_heap this];rfl,by rw [Lib.cell_of_heap this];rfl,by rw [Lib.cell_of_heap this];rfl,by rw [Lib.cell_of_heap this];rfl,by rw [Lib.cell_of_heap this];rfl⟩
  case hmain =>
   rintro k i' fl a w' hk hfl hrd ⟨u,e,s,p,a1,a2,rfl,hst⟩
   obtain ⟨f1,rfl⟩:∃f1,fl=[f1]:=by
    match fl,hfl with
    | [f1],_=>exact ⟨f1,rfl⟩
   rcases k with _|_|_|_|_|_|k
   ·obtain rfl:i'=6:=by simpa using hk.symm
    obtain ⟨_,rfl,h4⟩:(0=0∧w'=U∧(([f1]:List Bool)[0]? = some true→u=.slice pa ds.length ca)):=hst.elim id fun h=>by have:=h.1;omega
    have H4:=hid h4
    clear hst hrd hk hfl h4
    refine ⟨_,at_drop0 rfl,fun K hK=>?_⟩
    simp only [putS,List.foldl_cons,List.foldl_nil,Act.put,sz]
    rw [if_pos (by rfl)]
    go_simp
    refine HD1.out.mono ?_
    rintro e' w2 ⟨y,rfl,hy,hyd,hb2⟩
    have HN:Hid (TaSt n0 W w' g (Dx.dn ⟨xs,xt,xo,⟨mkp,mkc,mks,mrp,mrc,mrs⟩,xcp,xcc,xcs⟩) ds (.slice pa ds.length ca) #[.int .i64 (t.most:Nat),.slice pa ds.length ca,.int .u64 t.sum,.int .u64 xt] 1 [f1] u (.agg (encDx y).toArray) s p a1 a2 w2):=by
     refine Or.inr ⟨Nat.le_refl _,y,w2,rfl,⟨hy,hyd,hb2⟩,?_,(fun h=>by omega),(fun h=>by omega),(fun h=>by omega)⟩
     have h0:=pb_start (x:=y) (T:=177) (f:=1) u s p (HRW.out w2 hb2).1 (HRW.out w2 hb2).2
     cases f1 with
     | false=>exact h0
     | true =>
      obtain rfl:=H4.out rfl
      exact (pb_load h0 (by decide)).2
    clear hy hyd hb2
    obtain ⟨ys,yt,yo,⟨nkp,nkc,nks,nrp,nrc,nrs⟩,ycp,ycc,ycs⟩:=y
    simp only [encDx,Mx.ksl,Mx.rsl,Dx.csl] at HN ⊢
    go_wp2_with fail
    exact hK.out _ _ ⟨u,_,s,p,a1,a2,rfl,HN.out⟩
   ·obtain rfl:i'=7:=by simpa using hk.symm
    obtain ⟨_,y,w1,rfl,hyy,hpb,hfe,ha1,ha2⟩:=hst.resolve_left fun h=>by have:=h.1;omega
    have HN:Hid (TaSt n0 W U g (Dx.dn ⟨xs,xt,xo,⟨mkp,mkc,mks,mrp,mrc,mrs⟩,xcp,xcc,xcs⟩) ds (.slice pa ds.length ca) #[.int .i64 (t.most:Nat),.slice pa ds.length ca,.int .u64 t.sum,.int .u64 xt] 2 [f1] u (.agg (encDx y).toArray) (.slice (some ⟨w'.heap.size,0,none⟩) 1 1) p a1 a2 (w'.alloc (.cells (encDx y).toArray 177))) :=
     Or.inr ⟨by omega,y,w1,rfl,hyy,pb_box hpb,(fun h=>by omega),(fun h=>by omega),(fun h=>by omega)⟩
    clear hst hrd hk hfl hyy hpb hfe ha1 ha2
    obtain ⟨ys,yt,yo,⟨nkp,nkc,nks,nrp,nrc,nrs⟩,ycp,ycc,ycs⟩:=y
    simp only [encDx,Mx.ksl,Mx.rsl,Dx.csl] at HN ⊢
    refine ⟨_,at_drop0 rfl,fun K hK=>?_⟩
    simp only [putS,List.foldl_cons,List.foldl_nil,Act.put,sz]
    rw [if_pos (by rfl)]
    go_simp
    go_wp2_with fail
    exact hK.out _ _ ⟨u,_,_,p,a1,a2,rfl,HN.out⟩
   ·obtain rfl:i'=8:=by simpa using hk.symm
    cases f1 with
    | false=>exact (not_ready hrd (by kernel_rfl)).elim
    | true =>
    obtain ⟨_,y,w1,rfl,hyy,hpb,hfe,ha1,ha2⟩:=hst.resolve_left fun h=>by have:=h.1;omega
    obtain ⟨Z1,rfl,rfl,hbx,hrow⟩:=pb_row hpb
    refine ⟨_,at_drop0 rfl,fun K hK=>?_⟩
    simp only [putS,List.foldl_cons,List.foldl_nil,Act.put,sz]
    rw [if_pos (by rfl)]
    refine wp_push KDx rfl _ _ 218 rfl i0 _ 96 Tryz.underlying218 HI0.out hz0 hz1 hz2 rfl n0 W (.slice pa ds.length ca) ds (by rfl) hrow y Z1 1 1 rfl (by rfl) 177 (0,0) hbx (by unfold maxLen;omega) (by omega) ?_
    intro gg cc w3 h1 h2 h3
    exact hK.out _ _ ⟨_,_,_,_,a1,a2,rfl,Or.inr ⟨by omega,y,w1,rfl,hyy,pb_push hpb (fun b hb=>(HVM.out b hb).2.2) h1 h2 h3,(fun _=>rfl),(fun h=>by omega),(fun h=>by omega)⟩⟩
   ·obtain rfl:i'=9:=by simpa using hk.symm
    obtain ⟨_,y,w1,rfl,hyy,hpb,hfe,ha1,ha2⟩:=hst.resolve_left fun h=>by have:=h.1;omega
    have HN:Hid (TaSt n0 W U g (Dx.dn ⟨xs,xt,xo,⟨mkp,mkc,mks,mrp,mrc,mrs⟩,xcp,xcc,xcs⟩) ds (.slice pa ds.length ca) #[.int .i64 (t.most:Nat),.slice pa ds.length ca,.int .u64 t.sum,.int .u64 xt] 4 [f1] u (.agg (encDx y).toArray) s p (.pointer (some ⟨g,0,none⟩)) a2 w') :=
     Or.inr ⟨by omega,y,w1,rfl,hyy,pb_on hpb,(fun _=>hfe (by omega)),(fun _=>rfl),(fun h=>by omega)⟩
    clear hst hrd hk hfl hyy hpb hfe ha1 ha2
    refine ⟨_,at_drop0 rfl,fun K hK=>?_⟩
    simp only [putS,List.foldl_cons,List.foldl_nil,Act.put,sz]
    rw [if_pos (by rfl)]
    go_simp
    go_wp2_with fail
    exact hK.out _ _ ⟨u,_,s,p,_,a2,rfl,HN.out⟩
   ·obtain rfl:i'=10:=by simpa using hk.symm
    obtain ⟨_,y,w1,rfl,hyy,hpb,hfe,ha1,ha2⟩:=hst.resolve_left fun h=>by have:=h.1;omega
    obtain rfl:=ha1 (by omega)
    have HN:Hid (TaSt n0 W U g (Dx.dn ⟨xs,xt,xo,⟨mkp,mkc,mks,mrp,mrc,mrs⟩,xcp,xcc,xcs⟩) ds (.slice pa ds.length ca) #[.int .i64 (t.most:Nat),.slice pa ds.length ca,.int .u64 t.sum,.int .u64 xt] 5 [f1] u (.agg (encDx y).toArray) s p (.pointer (some ⟨g,0,none⟩)) (.pointer (some ⟨g,1,none⟩)) w') :=
     Or.inr ⟨by omega,y,w1,rfl,hyy,hpb,(fun _=>hfe (by omega)),(fun _=>rfl),(fun _=>rfl)⟩
    clear hst hrd hk hfl hyy hpb hfe ha1 ha2
    refine ⟨_,at_drop0 rfl,fun K hK=>?_⟩
    simp only [putS,List.foldl_cons,List.foldl_nil,Act.put,sz]
    rw [if_pos (by rfl)]
    go_simp
    go_wp2_with fail
    exact hK.out _ _ ⟨u,_,s,p,_,_,rfl,HN.out⟩
   ·obtain rfl:i'=11:=by simpa using hk.symm
    obtain ⟨_,y,w1,rfl,hyy,hpb,hfe,ha1,ha2⟩:=hst.resolve_left fun h=>by have:=h.1;omega
    obtain rfl:=ha1 (by omega)
    obtain rfl:=ha2 (by omega)
    have hgl:g<w1.heap.size:=by have:=hyy.2.2.size;omega
    obtain ⟨hb2,hst2⟩:=pb_store hpb hg0 (pb_off hpb (by decide) (fun b hb=>(HVM.out b hb).2.2) hgl)
    obtain ⟨pp,cc,rfl⟩:=pb_shape hpb (by decide)
    have HN:Hid (TaSt n0 W U g (Dx.dn ⟨xs,xt,xo,⟨mkp,mkc,mks,mrp,mrc,mrs⟩,xcp,xcc,xcs⟩) ds (.slice pa ds.length ca) #[.int .i64 (t.most:Nat),.slice pa ds.length ca,.int .u64 t.sum,.int .u64 xt] 6 [f1] u (.agg (encDx y).toArray) s (.slice pp (ds.length+1) cc) (.pointer (some ⟨g,0,none⟩)) (.pointer (some ⟨g,1,none⟩)) (w'.setCell ⟨g,1,none⟩ (.slice pp (ds.length+1) cc))) :=
     Or.inr ⟨by omega,y,w1,rfl,hyy,hst2,(fun _=>hfe (by omega)),(fun _=>rfl),(fun _=>rfl)⟩
    have c0:w'.cell? ⟨g,1,none⟩=some (.slice pa ds.length ca):=cz hb2
    have z0:w'.frozen? ⟨g,1,none⟩=false:=Lib.frozen_of_heap hb2 1
    clear hst hrd hk hfl hyy hpb hfe ha1 ha2 hb2 hst2
    refine ⟨_,at_drop0 rfl,fun K hK=>?_⟩
    simp only [putS,List.foldl_cons,List.foldl_nil,Act.put,sz]
    rw [if_pos (by rfl)]
    go_simp
    go_wp2_with fail
    exact hK.out _ _ ⟨u,_,s,_,_,_,rfl,HN.out⟩
   ·simp at hk
  case halloc =>
   rintro j i' k fl a w' hj hk hfl hf ⟨u,e,s,p,a1,a2,rfl,hst⟩
   obtain ⟨f1,rfl⟩:∃f1,fl=[f1]:=by
    match fl,hfl with
    | [f1],_=>exact ⟨f1,rfl⟩
   rcases j with _|j
   ·obtain rfl:i'=4:=by simpa using hj.symm
    obtain rfl:f1=false:=by simpa using hf
    have hN:w'.cell? ⟨g,1,none⟩=some (.slice pa ds.length ca)∧TaSt n0 W U g (Dx.dn ⟨xs,xt,xo,⟨mkp,mkc,mks,mrp,mrc,mrs⟩,xcp,xcc,xcs⟩) ds (.slice pa ds.length ca) #[.int .i64 (t.most:Nat),.slice pa ds.length ca,.int .u64 t.sum,.int .u64 xt] k [true] (.slice pa ds.length ca) e s p a1 a2 w':=by
     rcases hst with ⟨h1,h2,_⟩|⟨h1,y,w1,h2,hyy,hpb,hfe,ha1,ha2⟩
     ·refine ⟨?_,Or.inl ⟨h1,h2,fun _=>rfl⟩⟩
      rw [h2,Lib.cell_of_heap (HRW.out U (Below.refl _ _)).2];rfl
     ·have hk3:¬ 3≤k:=fun h=>by have:=hfe h;cases this
      have hkq:kqT13 k≤2:=by
       have:k=1∨k=2:=by omega
       rcases this with rfl|rfl<;>decide
      obtain ⟨q1,q2⟩:=pb_load hpb hkq
      exact ⟨by rw [Lib.cell_of_heap q1];rfl,Or.inr ⟨h1,y,w1,h2,hyy,q2,(fun h=>absurd h hk3),ha1,ha2⟩⟩
    have c0:=hN.1
    have HN:=hid hN.2
    clear hst hf hj hk hfl hN
    refine ⟨_,at_drop0 rfl,fun K hK=>?_⟩
    simp only [putS,List.foldl_cons,List.foldl_nil,Act.put,sz]
    rw [if_pos (by rfl)]
    go_simp
    go_wp2_with fail
    exact hK.out _ _ ⟨_,e,s,p,a1,a2,rfl,HN.out⟩
   ·simp at hj
  case hend =>
   rintro a w3 ⟨u,e,s,p,a1,a2,rfl,hst⟩
   obtain ⟨_,y,w1,rfl,hyy,hpb,_,_,_⟩:=hst.resolve_left fun h=>by have:=h.1;simp at this
   obtain ⟨g3,cc,rfl⟩:=pb_shape2 hpb (by decide)
   obtain ⟨q1,q2,q3,q4⟩:=pb_end hpb
   have hbs:W.heap.size≤U.heap.size:=HFU.out.size
   have hw1:Fr (fun b=>b=g) W w1:=HFU.out.then (Fr.of_below (P:=fun _=>False) hyy.2.2) fun _ h=>h.elim
   have hf1:Fr (fun b=>b=g∨(Value.slice pa ds.length ca).ownBlock=some b) W w3:=(hw1.mono fun k hk=>Or.inl hk).then q3 fun k hk=>Or.inl hk
   have hy3:QD.E n0 w3 y:=QD.weak (QD.fr hyy.1 q3 fun k hk e=>by
    have h1:=(QD.blk hyy.1 k hk).1
    rcases e with e|e
    ·omega
    ·have:=HVM.out k e
     omega) (by omega)
   have he4:∀d∈ds++[y],QD.E n0 w3 d:=fun d hd=>by
    rcases List.mem_append.1 hd with h|h
    ·exact HR.out.each_fr hf1 h
    ·rw [List.mem_singleton.1 h]
     exact hy3
   have hobj3:w3.heap[g]? = some (.cells #[.int .i64 (t.most:Nat),.slice (some ⟨g3,0,none⟩) (ds.length+1) cc,.int .u64 t.sum,.int .u64 xt] 220 (0,0)):=q2
   have hall3:KDx.Own n0 w3 (.slice (some ⟨g3,0,none⟩) (ds.length+1) cc) (ds++[y]):=q1.own
   have HYD:Hid (y.dn=(Dx.dn ⟨xs,xt,xo,⟨mkp,mkc,mks,mrp,mrc,mrs⟩,xcp,xcc,xcs⟩)):=hyy.2.1
   have HF1:Hid (Fr (BlkTr g ds (.slice pa ds.length ca)) W w3):=hf1.mono fun k hk=>hk.elim Or.inl fun h=>Or.inr (Or.inl h)
   have HQ4:Hid ((Value.slice pa ds.length ca).ownBlock=some g3∨W.heap.size≤g3):=(q4 g3 (by unfold Value.ownBlock;simp)).imp id fun h=>by have:=hyy.2.2.size;omega
   have HYB:Hid (∀k,BlkD13 y k→W.heap.size≤k):=fun k hk=>Nat.le_trans hbs (QD.blk hyy.1 k hk).1
   obtain ⟨D,hD⟩:∃D,ds++[y]=D:=⟨_,rfl⟩
   have HDL:Hid (D.length=ds.length+1):=by show _=_;rw [←hD];simp
   have HDM:Hid (D.map Dx.dn=t.kept++[(Dx.dn ⟨xs,xt,xo,⟨mkp,mkc,mks,mrp,mrc,mrs⟩,xcp,xcc,xcs⟩)]):=by
    show _=_
    rw [←hD,List.map_append,List.map_cons,List.map_nil,HYD.out,HR.out.kept]
   have HDB:Hid (∀k,(∃d∈D,BlkD13 d k)→BlkTr g ds (.slice pa ds.length ca) k∨W.heap.size≤k):=by
    rintro k ⟨d,hd,hk⟩
    rw [←hD] at hd
    rcases List.mem_append.1 hd with h|h
    ·exact Or.inl (Or.inr (Or.inr ⟨d,h,hk⟩))
    ·rw [List.mem_singleton.1 h] at hk
     exact Or.inr (HYB.out k hk)
   rw [hD] at hall3 he4
   have hgg3:g3≠g:=fun e=>by
    subst e
    obtain ⟨cs',q⟩:=own_type (show w3.ownsRow n0 177 KDx.k _ D.length (KDx.cells D) from hall3) (k:=g3) (by unfold Value.ownBlock;simp)
    exact typ_ne hobj3 q (by decide)
   /- what is so of a world that is met behind: only the tracker's block and its row have turned -/
   have HEND:Hid (∀(w':World) (t':Tk) (ds':List Dx) (va':Value),Fr (fun b=>b=g∨b=g3) w3 w'→w'.heap[g]? = some (.cells #[.int .i64 (t'.most:Nat),va',.int .u64 t'.sum,.int .u64 xt] 220 (0,0))→KDx.Own n0 w' va' ds'→(∀d∈ds',d∈D)→(∀k,va'.ownBlock=some k→k=g3)→ds'.map Dx.dn=t'.kept→t'=keepT t (Dx.dn ⟨xs,xt,xo,⟨mkp,mkc,mks,mrp,mrc,mrs⟩,xcp,xcc,xcs⟩)→t'.sum≤18446744073709551615 →
     TAddPost n0 W g t ds (.slice pa ds.length ca) (Dx.dn ⟨xs,xt,xo,⟨mkp,mkc,mks,mrp,mrc,mrs⟩,xcp,xcc,xcs⟩) (.returned (.int .i64 0)) w'):=fun w' t' ds' va' f hob hown hsub hvb hkept ht hsb=>by
    unfold TAddPost
    have hok:=HOKA.out
    rw [HADD.out] at hok ⊢
    rw [←ht] at hok ⊢
    have heach:∀d∈ds',QD.E n0 w' d:=fun d hd=>QD.fr (he4 d (hsub d hd)) f fun k hk e=>by
     rcases e with e|e
     ·subst e
      exact (he4 d (hsub d hd)).1.typ k hk hobj3 (by decide)
     ·subst e
      obtain ⟨cs',q⟩:=own_type (show w3.ownsRow n0 177 KDx.k _ D.length (KDx.cells D) from hall3) (k:=k) (by unfold Value.ownBlock;simp)
      exact (he4 d (hsub d hd)).1.typ k hk q (by decide)
    refine ⟨rfl,ds',va',xt,⟨hob,hg0,hown,heach,hkept,Or.inr (by rw [ht];exact keepT_last _ _),hst0,hsb,hok,by rw [ht,keepT_most];exact HR.out.room⟩,?_,fun k hk=>?_⟩
    ·refine HF1.out.then f fun k hk=>?_
     rcases hk with hk|hk
     ·exact Or.inl (Or.inl hk)
     ·rw [hk]
      exact HQ4.out.imp (fun h=>Or.inr (Or.inl h)) id
    ·rcases hk with hk|hk|⟨d,hd,hk⟩
     ·exact Or.inl (Or.inl hk)
     ·rw [hvb k hk]
      exact HQ4.out.imp (fun h=>Or.inr (Or.inl h)) id
     ·exact HDB.out k ⟨d,hsub d hd,hk⟩
   have HLK:Hid (ds.length=t.kept.length):=HR.out.len
   have hmost:=HR.out.room
   have HSB:=hid HR.out.sumb
   have HS0:=hid HR.out.ok.sum.1
   have HHD:Hid (∃y0:Dx,D[0]? = some y0∧(0≤y0.stamp∧y0.stamp≤18446744073709551615)∧((t.kept++[(Dx.dn ⟨xs,xt,xo,⟨mkp,mkc,mks,mrp,mrc,mrs⟩,xcp,xcc,xcs⟩)])[0]?).map Dn.stamp=some y0.stamp):=by
    have h0:0<D.length:=by rw [HDL.out];omega
    refine ⟨D[0],List.getElem?_eq_getElem h0,(he4 _ (List.getElem_mem h0)).2.2.2,?_⟩
    rw [←HDM.out,List.getElem?_map,List.getElem?_eq_getElem h0]
    rfl
   have HALL:=hid hall3
   have HOB:=hid hobj3
   clear hst hpb q1 q2 q3 q4 hf1 hw1 hy3 he4 hyy HSS HRW HD1 HOU HOBJ HVM HFU HB hD HES HFC HX
   have c1:w3.drew.cell? ⟨g,1,none⟩=some (.slice (some ⟨g3,0,none⟩) (ds.length+1) cc):=(Lib.cell_of_heap hobj3 1).trans rfl
   have c0:w3.drew.cell? ⟨g,0,none⟩=some (.int .i64 (t.most:Nat)):=(Lib.cell_of_heap hobj3 0).trans rfl
   clear hobj3 hall3
   simp only [putS,List.foldl_cons,List.foldl_nil,Act.put,sz]
   go_upto_region 7 with fail
   refine wp_region_held_drew (S:=fun w'=>w'.cell? ⟨g,1,none⟩=some (.slice (some ⟨g3,0,none⟩) (ds.length+1) cc)∧w'.cell? ⟨g,0,none⟩=some (.int .i64 (t.most:Nat))) (by kernel_rfl) ⟨c1,c0⟩ (fun hHeld=>?_)
   refine tkv 0 (.pointer (some ⟨g,0,none⟩)) hHeld ?_
   simp only [Act.put,sz]
   refine tkv 1 (.pointer (some ⟨g,0,none⟩)) hHeld ?_
   simp only [Act.put,sz]
   refine tkv 2 (.pointer (some ⟨g,1,none⟩)) hHeld ?_
   simp only [Act.put,sz]
   refine tkv 3 (.slice (some ⟨g3,0,none⟩) (ds.length+1) cc) hHeld ?_
   simp only [Act.put,sz]
   refine tkv 4 (.int .i64 ((ds.length:Int)+1)) hHeld ?_
   simp only [Act.put,sz]
   refine tkv 5 (.pointer (some ⟨g,0,none⟩)) hHeld ?_
   simp only [Act.put,sz]
   refine tkv 6 (.pointer (some ⟨g,0,none⟩)) hHeld ?_
   simp only [Act.put,sz]
   refine tkv 7 (.pointer (some ⟨g,0,none⟩)) hHeld ?_
   simp only [Act.put,sz]
   refine tkv 8 (.int .i64 (t.most:Nat)) hHeld ?_
   simp only [Act.put,sz]
   by_cases hfull:ds.length<t.most
   ·have hmz:¬ (t.most:Int)<((ds.length:Int)+1):=by omega
    have hmz2:¬ ((ds.length:Int)+1 > (t.most:Int)):=by omega
    refine tkv 9 (.bool false) hHeld ?_
    simp only [Act.put,sz]
    refine wpAnyH_done (by kernel_rfl) ?_ _
    clear hHeld c1 c0
    have HP:Hid (TAddPost n0 W g t ds (.slice pa ds.length ca) (Dx.dn ⟨xs,xt,xo,⟨mkp,mkc,mks,mrp,mrc,mrs⟩,xcp,xcc,xcs⟩) (.returned (.int .i64 0)) w3.drew) :=
     HEND.out w3.drew ⟨t.most,t.kept++[(Dx.dn ⟨xs,xt,xo,⟨mkp,mkc,mks,mrp,mrc,mrs⟩,xcp,xcc,xcs⟩)],some xt,t.sum⟩ D _ (Fr.of_below (Below.refl _ w3).drew) HOB.out (Kind.own_on HALL.out (Below.refl _ w3).drew) (fun d hd=>hd) (fun k hk=>by unfold Value.ownBlock at hk;simp at hk;exact hk.symm) HDM.out (keepT_room (by have:=HLK.out;omega)).symm HSB.out
    go_wp2_with fail
    go_ret
    exact HP.out
   ·have hmz:(t.most:Int)<((ds.length:Int)+1):=by omega
    have hmz2:((ds.length:Int)+1 > (t.most:Int)):=by omega
    refine tkv 9 (.bool true) hHeld ?_
    simp only [Act.put,sz]
    refine wpAnyH_done (by kernel_rfl) ?_ _
    clear hHeld c1 c0
    obtain ⟨y0,hy0,hyb,hys⟩:=HHD.out
    obtain ⟨st,hst9⟩:∃st,y0.stamp=st:=⟨_,rfl⟩
    rw [hst9] at hyb hys
    have hob:=HOB.out
    have ho3:=HALL.out
    have e1:w3.drew.drew.cell? ⟨g,1,none⟩=some (.slice (some ⟨g3,0,none⟩) (ds.length+1) cc):=(Lib.cell_of_heap hob 1).trans rfl
    have e2:w3.drew.drew.cell? ⟨g,2,none⟩=some (.int .u64 t.sum):=(Lib.cell_of_heap hob 2).trans rfl
    have y2:=Lib.frozen_of_heap hob 2
    have h0:0<D.length:=by rw [HDL.out];omega
    have e3:w3.drew.drew.cell? ⟨g3,1,none⟩=some (.int .u64 st):=by
     have h9:=(kdx_at (Kind.own_at ho3) 0 h0).2.1
     rw [List.getElem?_eq_getElem h0] at hy0
     rw [Option.some.inj hy0,hst9] at h9
     exact h9
    obtain ⟨w5,hw5⟩:∃w5,w3.drew.drew.setCell ⟨g,2,none⟩ (.int .u64 (max t.sum st))=w5:=⟨_,rfl⟩
    have f5:Fr (fun b=>b=g) w3 w5:=by
     rw [←hw5]
     exact (Fr.of_below ((Below.refl _ w3).drew.drew)).then (fr_set w3.drew.drew g 2 _) fun k hk=>Or.inl hk
    have hob5:w5.heap[g]? = some (.cells #[.int .i64 (t.most:Nat),.slice (some ⟨g3,0,none⟩) (ds.length+1) cc,.int .u64 (max t.sum st),.int .u64 xt] 220 (0,0)):=by
     rw [←hw5]
     exact heap_setCell_same _ g 2 _ _ _ hob
    have ho5:KDx.Own n0 w5 (.slice (some ⟨g3,0,none⟩) (ds.length+1) cc) D:=f5.row (show w3.ownsRow n0 KDx.T KDx.k _ D.length (KDx.cells D) from ho3) fun k hk e=>by
     unfold Value.ownBlock at hk
     simp at hk
     omega
    have d1:w5.cell? ⟨g,1,none⟩=some (.slice (some ⟨g3,0,none⟩) (ds.length+1) cc):=(Lib.cell_of_heap hob5 1).trans rfl
    have d3:w5.cell? ⟨g3,1,none⟩=some (.int .u64 st):=by
     rw [←hw5]
     exact (fr_set w3.drew.drew g 2 _).cell e3 hgg3
    have HDEL:Hid (Calls Tryz.prog 236 #[.slice (some ⟨g3,0,none⟩) (ds.length+1) cc,.int .i64 0,.int .i64 1] w5 fun e w'=>e=.returned (.slice (some ⟨g3,0,none⟩) ds.length cc)∧KDx.Own n0 w' (.slice (some ⟨g3,0,none⟩) ds.length cc) (D.drop 1)∧w5.grownBy w' (some g3)):=delD_any n0 g3 (ds.length+1) cc 1 D w5 ho5 (by omega) (by omega)
    have HF5:=hid f5
    have HOB5:=hid hob5
    have HYS:=hid hys
    have HYB:=hid hyb
    clear hob ho3 f5 hob5 ho5 hys hyb hy0 hst9 h0 HHD HALL HOB
    go_upto_region 8 with fail
    refine wp_region_held_drew (S:=fun w'=>w'.cell? ⟨g,1,none⟩=some (.slice (some ⟨g3,0,none⟩) (ds.length+1) cc)∧w'.cell? ⟨g3,1,none⟩=some (.int .u64 st)) (by kernel_rfl) ⟨e1,e3⟩ (fun hHeld=>?_)
    refine tkv 0 (.pointer (some ⟨g,0,none⟩)) hHeld ?_
    simp only [Act.put,sz]
    refine tkv 1 (.pointer (some ⟨g,0,none⟩)) hHeld ?_
    simp only [Act.put,sz]
    refine tkv 2 (.pointer (some ⟨g,0,none⟩)) hHeld ?_
    simp only [Act.put,sz]
    refine tkv 3 (.pointer (some ⟨g,2,none⟩)) hHeld ?_
    simp only [Act.put,sz]
    refine tkv 5 (.pointer (some ⟨g,0,none⟩)) hHeld ?_
    simp only [Act.put,sz]
    refine tkv 6 (.pointer (some ⟨g,0,none⟩)) hHeld ?_
    simp only [Act.put,sz]
    refine tkv 7 (.pointer (some ⟨g,1,none⟩)) hHeld ?_
    simp only [Act.put,sz]
    refine tkv 8 (.slice (some ⟨g3,0,none⟩) (ds.length+1) cc) hHeld ?_
    simp only [Act.put,sz]
    refine tkv 9 (.pointer (some ⟨g3,0,none⟩)) hHeld ?_
    simp only [Act.put,sz]
    refine tkv 10 (.pointer (some ⟨g3,1,none⟩)) hHeld ?_
    simp only [Act.put,sz]
    refine tkv 11 (.int .u64 st) hHeld ?_
    simp only [Act.put,sz]
    clear hHeld
    refine wpAnyH_ready (rs:=[4]) (by kernel_rfl) (by simp) ?_
    refine AllReadyH.cons (at_drop0 rfl) (fun K hK=>?_) AllReadyH.nil
    rw [if_pos (by rfl)]
    go_simp
    go_wp2_with fail
    refine hK.out _ _ (⟨e1,e3⟩) (fun hHeld=>?_)
    clear hK K
    try simp only [Act.put,sz]
    refine tkv 12 (.int .u64 (max t.sum st)) hHeld ?_
    simp only [Act.put,sz]
    refine tkv 13 (.pointer (some ⟨g,0,none⟩)) hHeld ?_
    simp only [Act.put,sz]
    refine tkv 14 (.pointer (some ⟨g,2,none⟩)) hHeld ?_
    simp only [Act.put,sz]
    clear hHeld
    refine wpAnyH_ready (rs:=[15]) (by kernel_rfl) (by simp) ?_
    refine AllReadyH.cons (at_drop0 rfl) (fun K hK=>?_) AllReadyH.nil
    rw [if_pos (by rfl)]
    go_simp
    go_wp2_with fail
    try rw [hw5]
    refine hK.out _ _ (⟨d1,d3⟩) (fun hHeld=>?_)
    clear hK K
    try simp only [Act.put,sz]
    refine wpAnyH_done (by kernel_rfl) ?_ _
    clear hHeld e1 e2 y2 e3 hw5
    go_wp2_with fail
    refine HDEL.out.mono ?_
    rintro e w6 ⟨rfl,ho6,hg6⟩
    have f6:Fr (fun b=>b=g3) w5 w6:=Fr.of_grown hg6 fun k hk=>by simpa using hk.symm
    have hob6:=(f6.block g (Array.getElem?_eq_some_iff.1 HOB5.out).1 (Ne.symm hgg3)).trans HOB5.out
    obtain ⟨w7,hw7⟩:∃w7,w6.setCell ⟨g,1,none⟩ (.slice (some ⟨g3,0,none⟩) ds.length cc)=w7:=⟨_,rfl⟩
    have hob7:w7.heap[g]? = some (.cells #[.int .i64 (t.most:Nat),.slice (some ⟨g3,0,none⟩) ds.length cc,.int .u64 (max t.sum st),.int .u64 xt] 220 (0,0)):=by
     rw [←hw7]
     exact heap_setCell_same _ g 1 _ _ _ hob6
    have f7:Fr (fun b=>b=g) w6 w7:=by rw [←hw7];exact fr_set w6 g 1 _
    have ho7:KDx.Own n0 w7 (.slice (some ⟨g3,0,none⟩) ds.length cc) (D.drop 1):=f7.row (show w6.ownsRow n0 KDx.T KDx.k _ (D.drop 1).length (KDx.cells (D.drop 1)) from ho6) fun k hk e=>by
     unfold Value.ownBlock at hk
     simp at hk
     omega
    have HP:Hid (TAddPost n0 W g t ds (.slice pa ds.length ca) (Dx.dn ⟨xs,xt,xo,⟨mkp,mkc,mks,mrp,mrc,mrs⟩,xcp,xcc,xcs⟩) (.returned (.int .i64 0)) w7):=by
     refine HEND.out w7 ⟨t.most,(t.kept++[(Dx.dn ⟨xs,xt,xo,⟨mkp,mkc,mks,mrp,mrc,mrs⟩,xcp,xcc,xcs⟩)]).drop 1,some xt,max t.sum st⟩ (D.drop 1) _ ?_ hob7 ho7 (fun d hd=>List.mem_of_mem_drop hd) (fun k hk=>by unfold Value.ownBlock at hk;simp at hk;exact hk.symm) (by rw [List.map_drop,HDM.out]) (keepT_full (by have:=HLK.out;omega) st HYS.out).symm (by have h1:=HSB.out;have h2:=HYB.out.2;show max t.sum st≤_;omega)
     exact ((HF5.out.mono fun k hk=>Or.inl hk).then f6 fun k hk=>Or.inl (Or.inr hk)).then f7 fun k hk=>Or.inl (Or.inl hk)
    have z1:w6.cell? ⟨g,1,none⟩=some (.slice (some ⟨g3,0,none⟩) (ds.length+1) cc):=(Lib.cell_of_heap hob6 1).trans rfl
    have y1:=Lib.frozen_of_heap hob6 1
    clear ho6 hg6 f6 hob6 hob7 f7 ho7 HDEL d1 d3
    go_wp2_with fail
    try rw [hw7]
    go_ret
    exact HP.out
end
section
open Go.RowKit
set_option maxHeartbeats 16000000 in
set_option maxRecDepth 100000 in
theorem tcheck_any {n0:Nat} {W:World} {g:Nat} {t:Tk} {ds:List Dx} {va:Value} {last:Int} (h:TrkM n0 W g t ds va last) (s:Int) (m:Mx) (v:Value) (cs:List Cx) (hm:MIn W m) (hc:ChgIn W v cs) (hz:SzD m cs) :
  Calls Tryz.prog 148 #[.pointer (some ⟨g,0,none⟩),.int .u64 s,.agg (encMx m).toArray,v] W fun e w'=>e=.returned (.tuple #[.bool (checkT t s m.mk' (cs.map Cx.ch)).1,.int .i64 (checkT t s m.mk' (cs.map Cx.ch)).2])∧Below W.heap.size W w':=by
 obtain ⟨hb,h1,hsz⟩:=one_box W (encMx m).toArray 53
 obtain ⟨V,hV⟩:∃V,W.alloc (.cells (encMx m).toArray 53)=V:=⟨_,rfl⟩
 obtain ⟨M,hM⟩:∃M,W.heap.size=M:=⟨_,rfl⟩
 rw [hV] at hb h1 hsz
 rw [hM] at h1 hsz
 have hsum:V.cell? ⟨g,2,none⟩=some (.int .u64 t.sum):=by rw [Lib.cell_of_heap (h.on hb).obj];rfl
 have HBX:Hid (∀W',Below V.heap.size V W'→W'.cell? ⟨M,0,none⟩=some m.ksl∧W'.cell? ⟨M,1,none⟩=some m.rsl):=fun W' hW=>by
  have e1:=(hW.block M (by omega)).trans h1
  exact ⟨by rw [Lib.cell_of_heap e1];rfl,by rw [Lib.cell_of_heap e1];rfl⟩
 have HBS:=hid (beside_any (h.on hb) s)
 have HB:=hid hb
 have hvs:∃p c,v=.slice p cs.length c:=by
  obtain ⟨p,c,e,_⟩:=hc.is
  exact ⟨p,c,e⟩
 by_cases hlow:s<t.sum
 ·have HR:=hid (check_low m.mk' (cs.map Cx.ch) hlow)
  obtain ⟨vp,vc,rfl⟩:=hvs
  obtain ⟨mkp,mkc,mks,mrp,mrc,mrs⟩:=m
  simp only [encMx,Mx.ksl,Mx.rsl] at *
  clear h h1 hm hc hz HBX HBS hb
  go_enter Tryz.func148,Tryz.ntmps148
  go_wp2_with fail
  try rw [hV]
  go_ret2
  exact ⟨by rw [HR.out];rfl,HB.out⟩
 ·have HT:Hid (∀k,ThrP ds s k→CutT t.kept s k∧(ds.drop k).map Dx.dn=t.kept.drop k):=fun k hk=>⟨h.cut hk,by rw [←h.kept,List.map_drop]⟩
  have HIS:Hid (∀k,CutT t.kept s k→checkT t s m.mk' (cs.map Cx.ch)=if (((t.kept.drop k).any fun d=>hitsM m.mk' d.chg&&d.out)||(((t.kept.drop k).any fun d=>hitsM m.mk' d.chg)&&(t.kept.drop k).any fun d=>hitsM d.marks (cs.map Cx.ch)))=true then (false,11) else ((t.kept.drop k).any fun d=>hitsM m.mk' d.chg,0)):=fun k hk=>check_is hk _ _ hlow
  have HFI:Hid (∀k,CutT t.kept s k→∀out inn,SeenT m.mk' (cs.map Cx.ch) (t.kept.drop k) out inn→checkT t s m.mk' (cs.map Cx.ch)=(out,0)):=fun k hk out inn hz=>SeenT.check hk hlow hz
  have HDI:Hid (∀W',Below W.heap.size W W'→∀d∈ds,DIn W' d):=fun W' hW d hd=>(h.on hW).inn d hd
  have HMI:Hid (∀W',Below W.heap.size W W'→MIn W' m∧ChgIn W' v cs):=fun W' hW=>⟨hm.on hW,hc.on hW⟩
  have HLM:=hid hz.len
  have hcl:=hz.chg
  have hfew:=h.few
  generalize checkT t s m.mk' (cs.map Cx.ch)=CK at *
  generalize hck:cs.map Cx.ch=ck at *
  have HCK:=hid hck
  clear hck h hm hc hz h1 hb
  obtain ⟨vp,vc,rfl⟩:=hvs
  obtain ⟨mk,hmk⟩:∃mk,m.mk'=mk:=⟨_,rfl⟩
  rw [hmk] at HIS HFI
  have HMK:=hid hmk
  clear hmk
  have HH1:Hid (∀W',Below W.heap.size W W'→∀d∈ds,Calls Tryz.prog 230 #[.agg #[m.ksl,m.rsl],d.csl] W' fun e w'=>BoolPost W' (hitsM mk d.dn.chg) e w'):=fun W' hW d hd=>by
   have hd':=HDI.out W' hW d hd
   have:=mhits12_any' m d.csl d.cs W' (HMI.out W' hW).1 HLM.out hd'.chg (by have:=hd'.sz.chg;omega)
   rw [HMK.out] at this
   exact this
  have HH2:Hid (∀W',Below W.heap.size W W'→∀d∈ds,Calls Tryz.prog 230 #[.agg #[d.m.ksl,d.m.rsl],.slice vp cs.length vc] W' fun e w'=>BoolPost W' (hitsM d.dn.marks ck) e w'):=fun W' hW d hd=>by
   have hd':=HDI.out W' hW d hd
   have:=mhits12_any' d.m _ cs W' hd'.mrk hd'.sz.len (HMI.out W' hW).2 (by omega)
   rw [HCK.out] at this
   exact this
  clear HLM HMI HDI
  obtain ⟨mkp,mkc,mks,mrp,mrc,mrs⟩:=m
  simp only [encMx,Mx.ksl,Mx.rsl] at *
  go_enter Tryz.func148,Tryz.ntmps148
  go_wp2_with fail
  try rw [hV]
  clear hsum hV
  refine HBS.out.mono ?_
  rintro e w1 ⟨⟨k,u,rfl,hk,p,cap,rfl,hd⟩,hb1⟩
  obtain ⟨hcut,hmap⟩:=HT.out k hk
  have HIS1:=hid (HIS.out k hcut)
  have HFI1:=hid (HFI.out k hcut)
  rw [←hmap] at HIS1 HFI1
  have HMEM:Hid (∀x∈ds.drop k,x∈ds):=fun x hx=>List.mem_of_mem_drop hx
  have hDl:(ds.drop k).length≤64:=by rw [List.length_drop];omega
  generalize ds.drop k=D at *
  have HD:=hid hd
  have HB1:=hid hb1
  have HVW:Hid (∀W',Below w1.heap.size w1 W'→Below V.heap.size V W'∧Below W.heap.size W W'):=fun W' hW=>by
   have h9:=bel_then hb1 hb1.size hW
   exact ⟨h9,bel_then HB.out HB.out.size h9⟩
  clear hd hk hcut hmap HT HIS HFI HBS hb1
  go_wp2_with fail
  go_loopg [8,10,26] D.length (fun gg v8 v10 vi wr=>∃(i:Nat) (out inn:Bool),v8=.bool out∧v10=.bool inn∧vi=.int .i64 i∧i≤D.length∧D.length-i≤gg∧Hid (Below w1.heap.size w1 wr)∧Hid (SeenT mk ck ((D.take i).map Dx.dn) out inn))
  case atStart=>exact ⟨0,false,false,rfl,rfl,rfl,by omega,by omega,Below.refl _ _,seen_nil _ _⟩
  case round =>
   obtain ⟨i,out,inn,rfl,rfl,rfl,hi,hgk,HBR,HSE⟩:=hrel
   by_cases hlt:i<D.length
   ·have hltz:(i:Int)<(D.length:Int):=by omega
    have hiz:(0:Int)≤i:=by omega
    obtain ⟨b1,o1,rfl,k1⟩:∃b off,p=some ⟨b,off,none⟩∧KDx.At w1 b off D:=by
     rcases HD.out with h|h
     ·rw [h] at hlt;simp at hlt
     ·exact h
    obtain ⟨c0,c1,c2,c3,c4,c5⟩:=kdx_at (Kind.at_kept k1 HBR.out) i hlt
    have hmem:=HMEM.out _ (List.getElem_mem hlt)
    obtain ⟨V1,hV1⟩:∃V1,wr.alloc (.cells (encDx D[i]).toArray 177)=V1:=⟨_,rfl⟩
    have hbV1:Below wr.heap.size wr V1:=by rw [←hV1];exact (Below.refl _ _).alloc (Nat.le_refl _) _
    have hbw:Below w1.heap.size w1 V1:=bel_then HBR.out HBR.out.size hbV1
    have HC1:=hid (HH1.out V1 (HVW.out V1 hbw).2 _ hmem)
    have HC2:Hid (∀W',Below w1.heap.size w1 W'→Calls Tryz.prog 230 #[.agg #[(D[i]).m.ksl,(D[i]).m.rsl],.slice vp cs.length vc] W' fun e w'=>BoolPost W' (hitsM (D[i]).dn.marks ck) e w'):=fun W' hW=>HH2.out W' (HVW.out W' hW).2 _ hmem
    have hspl:(D.take (i+1)).map Dx.dn=(D.take i).map Dx.dn++[(D[i]).dn]:=by
     rw [List.take_succ_eq_append_getElem hlt,List.map_append]
     rfl
    have hall:D.map Dx.dn=(D.take i).map Dx.dn++(D[i]).dn::(D.drop (i+1)).map Dx.dn:=by
     rw [←List.map_cons,←List.map_append,←List.drop_eq_getElem_cons hlt,List.take_append_drop]
    have HSN:Hid (∀a b,hitsM mk (D[i]).dn.chg=a→(inn||hitsM (D[i]).dn.marks ck)=b→(a&&(D[i]).dn.out)=false→((out||a)&&b)=false→SeenT mk ck ((D.take (i+1)).map Dx.dn) (out||a) b):=fun a b ha hb h1 h2=>by
     rw [hspl]
     exact HSE.out.snoc _ ha hb h1 h2
    have HCL:Hid (∀a b,hitsM mk (D[i]).dn.chg=a→(inn||hitsM (D[i]).dn.marks ck)=b→(a&&(D[i]).dn.out)=true∨((out||a)&&b)=true→CK=(false,11)):=fun a b ha hb h1=>by
     have h2:=HSE.out.clash (D[i]).dn ((D.drop (i+1)).map Dx.dn) ha hb h1
     rw [←hall] at h2
     rw [HIS1.out,if_pos h2]
    have HBOTH:=hid HSE.out.both
    obtain ⟨G,hG⟩:∃G,wr.heap.size=G:=⟨_,rfl⟩
    have hn1:V1.heap[G]? = some (.cells (encDx D[i]).toArray 177 (0,0)):=by rw [←hV1,←hG];exact heap_alloc_new wr _
    have hGs:G<V1.heap.size:=(Array.getElem?_eq_some_iff.1 hn1).1
    generalize D[i]=x at *
    have HNB:Hid (∀W',Below V1.heap.size V1 W'→W'.heap[G]? = some (.cells (encDx x).toArray 177 (0,0))):=fun W' hW=>(hW.block G hGs).trans hn1
    obtain ⟨a0,a1⟩:=HBX.out V1 (HVW.out V1 hbw).1
    obtain ⟨A,hA⟩:∃A,hitsM mk x.dn.chg=A:=⟨_,rfl⟩
    obtain ⟨Bv,hBv⟩:∃Bv,hitsM x.dn.marks ck=Bv:=⟨_,rfl⟩
    rw [hA] at HC1 HSN HCL
    rw [hBv] at HC2 HSN HCL
    clear hA hBv hspl hall hmem k1
    obtain ⟨xs,xt,xo,⟨xkp,xkc,xks,xrp,xrc,xrs⟩,xcp,xcc,xcs⟩:=x
    simp only [encDx,Mx.ksl,Mx.rsl,Dx.csl,Dx.dn] at *
    have d5:V1.cell? ⟨G,5,none⟩=some (.slice xcp xcs.length xcc):=cz hn1
    have HBW:=hid hbw
    clear hn1 hbw hbV1
    go_upto_region 9 with fail
    try rw [hG]
    try rw [hV1]
    clear hV1 c0 c1 c2 c3 c4 c5
    go_wp2_with fail
    clear a0 a1 d5
    refine HC1.out.mono ?_
    rintro e w2 ⟨rfl,hb2⟩
    have HB2:=hid (bel_then HBW.out HBW.out.size hb2)
    have HN2:=hid (HNB.out w2 hb2)
    have q2:w2.cell? ⟨G,2,none⟩=some (.bool xo):=by rw [Lib.cell_of_heap HN2.out];rfl
    have q3:w2.cell? ⟨G,3,none⟩=some (.slice xkp xks.length xkc):=by rw [Lib.cell_of_heap HN2.out];rfl
    have q4:w2.cell? ⟨G,4,none⟩=some (.slice xrp xrs.length xrc):=by rw [Lib.cell_of_heap HN2.out];rfl
    have HC3:=hid (HC2.out w2 HB2.out)
    have HNB2:Hid (∀W',Below w2.heap.size w2 W'→W'.cell? ⟨G,2,none⟩=some (.bool xo)):=fun W' hW=>by
     have:=HNB.out W' (bel_then hb2 hb2.size hW)
     rw [Lib.cell_of_heap this]
     rfl
    clear hb2 HC1 HC2 HNB HN2
    cases inn with
    | true =>
     cases out with
     | true=>exact absurd HBOTH.out (by decide)
     | false =>
      clear HC3
      cases A with
      | true =>
       cases xo with
       | true =>
        go_wp2_with fail
        go_ret2
        exact ⟨by rw [HCL.out true true rfl rfl (Or.inl rfl)];rfl,(HVW.out _ HB2.out).2⟩
       | false =>
        go_wp2_with fail
        go_ret2
        exact ⟨by rw [HCL.out true true rfl rfl (Or.inr rfl)];rfl,(HVW.out _ HB2.out).2⟩
      | false =>
       cases xo with
       | true =>
        go_wp2_with fail
        go_roundg (D.length-(i+1))
        case measure=>omega
        exact ⟨i+1,false,true,rfl,rfl,by go_num,by omega,by omega,HB2.out,HSN.out false true rfl rfl rfl rfl⟩
       | false =>
        go_wp2_with fail
        go_roundg (D.length-(i+1))
        case measure=>omega
        exact ⟨i+1,false,true,rfl,rfl,by go_num,by omega,by omega,HB2.out,HSN.out false true rfl rfl rfl rfl⟩
    | false =>
     cases out with
     | true =>
      cases A with
      | true =>
       go_wp2_with fail
       clear q2 q3 q4
       refine HC3.out.mono ?_
       rintro e w3 ⟨rfl,hb3⟩
       have HB3:=hid (bel_then HB2.out HB2.out.size hb3)
       have q2:=HNB2.out w3 hb3
       clear hb3 HC3 HNB2
       cases Bv with
       | true =>
        cases xo with
        | true =>
         go_wp2_with fail
         go_ret2
         exact ⟨by rw [HCL.out true true rfl rfl (Or.inl rfl)];rfl,(HVW.out _ HB3.out).2⟩
        | false =>
         go_wp2_with fail
         go_ret2
         exact ⟨by rw [HCL.out true true rfl rfl (Or.inr rfl)];rfl,(HVW.out _ HB3.out).2⟩
       | false =>
        cases xo with
        | true =>
         go_wp2_with fail
         go_ret2
         exact ⟨by rw [HCL.out true false rfl rfl (Or.inl rfl)];rfl,(HVW.out _ HB3.out).2⟩
        | false =>
         go_wp2_with fail
         go_roundg (D.length-(i+1))
         case measure=>omega
         exact ⟨i+1,true,false,rfl,rfl,by go_num,by omega,by omega,HB3.out,HSN.out true false rfl rfl rfl rfl⟩
      | false =>
       go_wp2_with fail
       clear q2 q3 q4
       refine HC3.out.mono ?_
       rintro e w3 ⟨rfl,hb3⟩
       have HB3:=hid (bel_then HB2.out HB2.out.size hb3)
       have q2:=HNB2.out w3 hb3
       clear hb3 HC3 HNB2
       cases Bv with
       | true =>
        cases xo with
        | true =>
         go_wp2_with fail
         go_ret2
         exact ⟨by rw [HCL.out false true rfl rfl (Or.inr rfl)];rfl,(HVW.out _ HB3.out).2⟩
        | false =>
         go_wp2_with fail
         go_ret2
         exact ⟨by rw [HCL.out false true rfl rfl (Or.inr rfl)];rfl,(HVW.out _ HB3.out).2⟩
       | false =>
        cases xo with
        | true =>
         go_wp2_with fail
         go_roundg (D.length-(i+1))
         case measure=>omega
         exact ⟨i+1,true,false,rfl,rfl,by go_num,by omega,by omega,HB3.out,HSN.out false false rfl rfl rfl rfl⟩
        | false =>
         go_wp2_with fail
         go_roundg (D.length-(i+1))
         case measure=>omega
         exact ⟨i+1,true,false,rfl,rfl,by go_num,by omega,by omega,HB3.out,HSN.out false false rfl rfl rfl rfl⟩
     | false =>
      cases A with
      | true =>
       go_wp2_with fail
       clear q2 q3 q4
       refine HC3.out.mono ?_
       rintro e w3 ⟨rfl,hb3⟩
       have HB3:=hid (bel_then HB2.out HB2.out.size hb3)
       have q2:=HNB2.out w3 hb3
       clear hb3 HC3 HNB2
       cases Bv with
       | true =>
        cases xo with
        | true =>
         go_wp2_with fail
         go_ret2
         exact ⟨by rw [HCL.out true true rfl rfl (Or.inl rfl)];rfl,(HVW.out _ HB3.out).2⟩
        | false =>
         go_wp2_with fail
         go_ret2
         exact ⟨by rw [HCL.out true true rfl rfl (Or.inr rfl)];rfl,(HVW.out _ HB3.out).2⟩
       | false =>
        cases xo with
        | true =>
         go_wp2_with fail
         go_ret2
         exact ⟨by rw [HCL.out true false rfl rfl (Or.inl rfl)];rfl,(HVW.out _ HB3.out).2⟩
        | false =>
         go_wp2_with fail
         go_roundg (D.length-(i+1))
         case measure=>omega
         exact ⟨i+1,true,false,rfl,rfl,by go_num,by omega,by omega,HB3.out,HSN.out true false rfl rfl rfl rfl⟩
      | false =>
       go_wp2_with fail
       clear q2 q3 q4
       refine HC3.out.mono ?_
       rintro e w3 ⟨rfl,hb3⟩
       have HB3:=hid (bel_then HB2.out HB2.out.size hb3)
       have q2:=HNB2.out w3 hb3
       clear hb3 HC3 HNB2
       cases Bv with
       | true =>
        cases xo with
        | true =>
         go_wp2_with fail
         go_roundg (D.length-(i+1))
         case measure=>omega
         exact ⟨i+1,false,true,rfl,rfl,by go_num,by omega,by omega,HB3.out,HSN.out false true rfl rfl rfl rfl⟩
        | false =>
         go_wp2_with fail
         go_roundg (D.length-(i+1))
         case measure=>omega
         exact ⟨i+1,false,true,rfl,rfl,by go_num,by omega,by omega,HB3.out,HSN.out false true rfl rfl rfl rfl⟩
       | false =>
        cases xo with
        | true =>
         go_wp2_with fail
         go_roundg (D.length-(i+1))
         case measure=>omega
         exact ⟨i+1,false,false,rfl,rfl,by go_num,by omega,by omega,HB3.out,HSN.out false false rfl rfl rfl rfl⟩
        | false =>
         go_wp2_with fail
         go_roundg (D.length-(i+1))
         case measure=>omega
         exact ⟨i+1,false,false,rfl,rfl,by go_num,by omega,by omega,HB3.out,HSN.out false false rfl rfl rfl rfl⟩
   ·have hltz:¬ (i:Int)<(D.length:Int):=by omega
    have hti:D.take i=D:=List.take_of_length_le (by omega)
    rw [hti] at HSE
    have HE:=hid (HFI1.out out inn HSE.out)
    go_wp2_with fail
    go_ret2
    exact ⟨by rw [HE.out];rfl,by have q:=(HVW.out _ HBR.out).2;rw [hM] at q;exact q⟩
end
section
open Go.RowKit
def PrgT13 (n0:Nat) (W:World) (B:Nat→Prop) (g:Nat) (t:Tk):Prop:=∃ds va last,TrkM n0 W g t ds va last∧B=BlkTr g ds va
theorem prgT_turn {n0:Nat} {W:World} {g:Nat} {ds:List Dx} {va:Value} {t':Tk} {w':World} (h:TrkPost n0 W g ds va t' w'):YTurn PrgT13 n0 W (BlkTr g ds va) g t' w':=by
 obtain ⟨ds',va',last',h1,h2,h3⟩:=h
 exact ⟨BlkTr g ds' va',⟨ds',va',last',h1,rfl⟩,h2,h3⟩
end
section
open Go.RowKit
set_option maxRecDepth 100000 in
theorem aload64 (b o:Nat) (x:Int) (w:World) (hc:w.cell? ⟨b,o,none⟩=some (.int .u64 x)) :
  Calls Tryz.prog 133 #[.pointer (some ⟨b,o,none⟩)] w fun e w'=>e=.returned (.int .u64 x)∧w'=w:=by
 have hl:=run_call_load (P:=Tryz.prog) Tryz.func208 (by kernel_rfl) (by kernel_rfl) (by kernel_rfl) .u64 (by kernel_rfl) hc
 go_enter Tryz.func133,Tryz.ntmps133
 go_wp2
 go_ret
 exact ⟨rfl,rfl⟩
set_option maxRecDepth 100000 in
theorem astore64 (b o:Nat) (x y:Int) (w:World) (hc:w.cell? ⟨b,o,none⟩=some (.int .u64 x)) (hz:w.frozen? ⟨b,o,none⟩=false) :
  Calls Tryz.prog 117 #[.pointer (some ⟨b,o,none⟩),.int .u64 y] w fun e w'=>e=.returned (.tuple #[])∧w'=w.setCell ⟨b,o,none⟩ (.int .u64 y):=by
 have hl:=run_call_store (P:=Tryz.prog) Tryz.func183 (by kernel_rfl) (by kernel_rfl) (by kernel_rfl) (by kernel_rfl) (k:=.u64) (y:=y) hc hz
 go_enter Tryz.func117,Tryz.ntmps117
 go_wp2
 go_end0
 exact ⟨rfl,rfl⟩
end
section
open Go.RowKit
def MU:MKind Int Int where
 K:=3
 E:=22
 M:=215
 key x:=.int .i64 x
 lit x:=.int .i64 x
 fit x:=(Lit.int .i64 x).wf=true
 val x:=.int .u64 x
 enc x:=.lit (.int .u64 x)
 read v:=match v with
  | .int .u64 x=>some (.lit (.int .u64 x),[])
  | _=>none
 zero:=0
 und:=Tryz.underlying215
 keyed:=Maps.int_keyed Tryz.underlying3
 key_is x h:=Maps.keyOf_int_mk Tryz.underlying3 h
 key_fit x l h:=by
  rw [keyOf_int Tryz.underlying3] at h
  simp [mapKey,Tryz.underlying3] at h
  exact ⟨h.1,h.2.symm⟩
 key_inv v l h:=by
  rw [keyOf_int Tryz.underlying3] at h
  cases v<;>simp [mapKey,Tryz.underlying3] at h
  obtain ⟨⟨rfl,_⟩,_⟩:=h
  exact ⟨_,rfl⟩
 lit_inj x y _ _ h:=by injection h
 read_mk e:=rfl
 read_inv v y h:=by
  split at h
  ·exact ⟨_,rfl⟩
  ·cases h
 enc_inj a b h:=by
  injection h with h
  injection h
 zeroV w:=by kernel_rfl
theorem fit_q {x:Int} (h0:-9223372036854775808≤x) (h1:x≤9223372036854775807):MU.fit x:=(Lit.wf_int_iff .i64 x).2 ⟨h0,h1⟩
structure PrgQ (n0:Nat) (W:World) (B:Nat→Prop) (g:Nat) (os:Sn) (fl:Int):Prop where
 is:∃m,W.heap[g]? = some (.cells #[.int .u64 fl,.map (some m),.int .i64 (os.length:Int)] 217 (0,0))∧MapG MU W m os.length (atQ os) (countQ os)∧n0≤g∧n0≤m∧∀k,B k↔k=g∨k=m
theorem PrgQ.blk {n0:Nat} {W:World} {B:Nat→Prop} {g:Nat} {os:Sn} {fl:Int} (h:PrgQ n0 W B g os fl) (k:Nat) (hk:B k):n0≤k∧k<W.heap.size:=by
 obtain ⟨m,ho,hm,h1,h2,hB⟩:=h.is
 rcases (hB k).1 hk with rfl|rfl
 ·exact ⟨h1,(Array.getElem?_eq_some_iff.1 ho).1⟩
 ·exact ⟨h2,hm.lt⟩
theorem PrgQ.fr {n0:Nat} {W W':World} {B:Nat→Prop} {g:Nat} {os:Sn} {fl:Int} {P:Nat→Prop} (h:PrgQ n0 W B g os fl) (f:Fr P W W') (hP:∀k,B k→¬ P k):PrgQ n0 W' B g os fl:=by
 obtain ⟨m,ho,hm,h1,h2,hB⟩:=h.is
 exact ⟨m,(f.block g (Array.getElem?_eq_some_iff.1 ho).1 (hP g ((hB g).2 (Or.inl rfl)))).trans ho,hm.on (f.block m hm.lt (hP m ((hB m).2 (Or.inr rfl)))),h1,h2,hB⟩
theorem PrgQ.on {n0:Nat} {W W':World} {B:Nat→Prop} {g:Nat} {os:Sn} {fl:Int} (h:PrgQ n0 W B g os fl) (hb:Below W.heap.size W W'):PrgQ n0 W' B g os fl :=
 h.fr (P:=fun _=>False) (Fr.of_below hb) fun _ _ k=>k
def PTurn (n0:Nat) (W:World) (B:Nat→Prop) (g:Nat) (os:Sn) (fl:Int) (w':World):Prop:=∃B',PrgQ n0 w' B' g os fl∧Fr B W w'∧∀k,B' k→B k∨W.heap.size≤k
theorem PTurn.same {n0:Nat} {W:World} {B:Nat→Prop} {g:Nat} {os:Sn} {fl:Int} (h:PrgQ n0 W B g os fl):PTurn n0 W B g os fl W:=⟨B,h,Fr.refl _ _,fun _ hk=>Or.inl hk⟩
theorem PTurn.below {n0:Nat} {W w':World} {B:Nat→Prop} {g:Nat} {os:Sn} {fl:Int} (h:PrgQ n0 W B g os fl) (hb:Below W.heap.size W w'):PTurn n0 W B g os fl w':=⟨B,h.on hb,Fr.of_below hb,fun _ hk=>Or.inl hk⟩
set_option maxHeartbeats 4000000 in
set_option maxRecDepth 100000 in
theorem pnewQ_any (n0:Nat) (W:World) (hn:n0≤W.heap.size):Calls Tryz.prog 56 #[] W fun e w'=>∃B g,e=.returned (.pointer (some ⟨g,0,none⟩))∧PrgQ n0 w' B g [] 0∧Below W.heap.size W w'∧∀k,B k→W.heap.size≤k:=by
 have hmm:=@run_makeMap Tryz.prog
 have hb:Below W.heap.size W ((W.alloc (.map #[] 0)).alloc (.cells #[.int .u64 0,.map (some W.heap.size),.int .i64 0] 217)):=((Below.refl _ _).alloc (Nat.le_refl _) _).alloc (by simp) _
 have HM:Hid (PrgQ n0 ((W.alloc (.map #[] 0)).alloc (.cells #[.int .u64 0,.map (some W.heap.size),.int .i64 0] 217)) (fun k=>k=W.heap.size+1∨k=W.heap.size) (W.heap.size+1) [] 0):=by
  have h1:=heap_alloc_new (W.alloc (.map #[] 0)) (.cells #[.int .u64 0,.map (some W.heap.size),.int .i64 0] 217)
  rw [World.size_alloc] at h1
  refine ⟨W.heap.size,h1,?_,by omega,hn,fun k=>Iff.rfl⟩
  refine ((mapG_made MU W).on (Below.heap_alloc _ _ _ (by simp))).congr fun k _=>?_
  unfold atQ
  split<;>simp
 have HB:=hid hb
 clear hb
 go_enter Tryz.func56,Tryz.ntmps56
 go_wp2_with fail
 go_ret
 exact ⟨_,_,rfl,HM.out,HB.out,fun k hk=>by rcases hk with rfl|rfl<;>omega⟩
set_option maxHeartbeats 4000000 in
set_option maxRecDepth 100000 in
theorem popenQ_any (n0 g:Nat) (os:Sn) (fl x:Int) (B:Nat→Prop) (W:World) (h:PrgQ n0 W B g os fl) (hf:os.length<40000000000000) :
  Calls Tryz.prog 75 #[.pointer (some ⟨g,0,none⟩),.int .u64 x] W fun e w'=>e=.returned (.tuple #[.int .i64 (openQ os fl x).1.1,.int .i64 (openQ os fl x).1.2])∧PTurn n0 W B g (openQ os fl x).2 fl w':=by
 have HP:=hid h
 obtain ⟨m,ho,hm,h1,h2,hB⟩:=h.is
 have c0:W.cell? ⟨g,1,none⟩=some (.map (some m)):=cz ho
 have c1:W.cell? ⟨g,2,none⟩=some (.int .i64 (os.length:Int)):=cz ho
 have c2:W.cell? ⟨g,0,none⟩=some (.int .u64 fl):=cz ho
 have z1:=Lib.frozen_of_heap ho 2
 have HL:=hid (aload64 g 0 fl W c2)
 by_cases hlt:x<fl
 ·have HQ:Hid (openQ os fl x=((0,8),os)):=by show _=_;unfold openQ;rw [if_pos hlt]
  clear h ho hm
  go_enter Tryz.func75,Tryz.ntmps75
  go_wp2_with fail
  refine HL.out.mono ?_
  rintro e w1 ⟨rfl,rfl⟩
  go_wp2_with fail
  go_ret2
  rw [HQ.out]
  exact ⟨rfl,PTurn.same HP.out⟩
 ·have HQ:Hid (openQ os fl x=(((os.length:Int)+1,0),os++[some x])):=by show _=_;unfold openQ;rw [if_neg hlt]
  have hne:g≠m:=hm.off ho
  obtain ⟨W1,hW1⟩:∃W1,W.setCell ⟨g,2,none⟩ (.int .i64 ((os.length:Int)+1))=W1:=⟨_,rfl⟩
  have ho1:W1.heap[g]? = some (.cells #[.int .u64 fl,.map (some m),.int .i64 ((os.length:Int)+1)] 217 (0,0)):=by rw [←hW1];exact heap_setCell_same W g 2 _ _ _ ho
  have hm1:W1.heap[m]? = W.heap[m]?:=by rw [←hW1];exact heap_setCell_other W _ m _ (fun e=>hne e.symm)
  have e0:W1.cell? ⟨g,1,none⟩=some (.map (some m)):=cz ho1
  have e1:W1.cell? ⟨g,2,none⟩=some (.int .i64 ((os.length:Int)+1)):=cz ho1
  have hfit:MU.fit ((os.length:Int)+1):=fit_q (by omega) (by omega)
  obtain ⟨w2,hput,hM2,hg2⟩:=mapG_put (W:=W1.drew) (hm.on hm1) hfit (by unfold maxLen;omega) x
  have ho2:w2.heap[g]? = some (.cells #[.int .u64 fl,.map (some m),.int .i64 ((os.length:Int)+1)] 217 (0,0)):=(hg2.block g (Array.getElem?_eq_some_iff.1 ho1).1 (fun e=>hne (by injection e))).trans ho1
  have HT:Hid (PTurn n0 W B g (os++[some x]) fl w2):=by
   refine ⟨B,⟨m,?_,?_,h1,h2,hB⟩,?_,fun _ hk=>Or.inl hk⟩
   ·rw [List.length_append]
    exact ho2
   ·rw [List.length_append,count_open]
    have hnone:atQ os ((os.length:Int)+1)=none:=atQ_le (by omega)
    rw [hnone] at hM2
    exact hM2.congr fun k _=>(atQ_open os x k).symm
   ·refine ⟨hg2.os.trans (by rw [←hW1];rfl),hg2.tape.trans (by rw [←hW1];rfl),hg2.output.trans (by rw [←hW1];rfl),?_,fun k hk hn=>?_⟩
    ·have hs:W1.heap.size=W.heap.size:=by rw [←hW1];simp
     have:=hg2.size
     have hd:W1.drew.heap.size=W1.heap.size:=rfl
     omega
    ·have hk1:W1.heap[k]? = W.heap[k]?:=by rw [←hW1];exact heap_setCell_other W _ k _ (fun e=>hn ((hB k).2 (Or.inl e)))
     have hs:W1.heap.size=W.heap.size:=by rw [←hW1];simp
     exact (hg2.block k (by show k<W1.heap.size;omega) (fun e=>hn ((hB k).2 (Or.inr (by injection e))))).trans hk1
  have d0:w2.cell? ⟨g,1,none⟩=some (.map (some m)):=cz ho2
  have d1:w2.cell? ⟨g,2,none⟩=some (.int .i64 ((os.length:Int)+1)):=cz ho2
  have hput':(Instr.mapUpdate 215 (.map (some m)) (.int .i64 ((os.length:Int)+1)) (.int .u64 x)).run Tryz.prog W1.drew=.ok () w2:=hput
  clear h ho hm ho1 hm1 hM2 hg2 ho2 hput hB hfit hne h1 h2
  go_enter Tryz.func75,Tryz.ntmps75
  go_wp2_with fail
  refine HL.out.mono ?_
  rintro e w1 ⟨rfl,rfl⟩
  go_wp2_with fail
  refine wp_region_held_drew (S:=fun w'=>w'.cell? ⟨g,1,none⟩=some (.map (some m))∧w'.cell? ⟨g,2,none⟩=some (.int .i64 ((os.length:Int)+1))) (by kernel_rfl) ⟨e0,e1⟩ (fun hHeld=>?_)
  refine tkv 0 (.pointer (some ⟨g,0,none⟩)) hHeld ?_
  simp only [Act.put,sz]
  refine tkv 1 (.pointer (some ⟨g,0,none⟩)) hHeld ?_
  simp only [Act.put,sz]
  refine tkv 2 (.pointer (some ⟨g,1,none⟩)) hHeld ?_
  simp only [Act.put,sz]
  refine tkv 3 (.map (some m)) hHeld ?_
  simp only [Act.put,sz]
  refine tkv 4 (.pointer (some ⟨g,0,none⟩)) hHeld ?_
  simp only [Act.put,sz]
  refine tkv 5 (.pointer (some ⟨g,0,none⟩)) hHeld ?_
  simp only [Act.put,sz]
  refine tkv 6 (.pointer (some ⟨g,2,none⟩)) hHeld ?_
  simp only [Act.put,sz]
  refine tkv 7 (.int .i64 ((os.length:Int)+1)) hHeld ?_
  simp only [Act.put,sz]
  refine tkv 8 (.int .u64 x) hHeld ?_
  simp only [Act.put,sz]
  refine wpAnyH_ready (rs:=[9]) (by kernel_rfl) (by simp) ?_
  refine AllReadyH.cons (at_drop0 rfl) (fun K hK=>?_) AllReadyH.nil
  rw [if_pos (by rfl)]
  go_simp
  refine hK.out _ _ (⟨d0,d1⟩) (fun hHeld=>?_)
  clear hK K
  try simp only [Act.put,sz]
  refine wpAnyH_done (by kernel_rfl) ?_ _
  go_wp2_with fail
  go_ret2
  rw [HQ.out]
  exact ⟨rfl,HT.out⟩
end
section
open Go.RowKit
theorem mem_at {os:Sn} {s:Int} (h:some s∈os):∃i:Nat,i<os.length∧atQ os ((i:Int)+1)=some s:=by
 obtain ⟨i,hi,e⟩:=List.mem_iff_getElem.1 h
 exact ⟨i,hi,by rw [atQ_in hi,e]⟩
theorem at_memQ {os:Sn} {id s:Int} (h:atQ os id=some s):some s∈os:=by
 unfold atQ at h
 split at h
 ·cases hg:os[(id-1).toNat]? with
  | none=>rw [hg] at h;cases h
  | some o =>
   rw [hg] at h
   obtain rfl:o=some s:=h
   exact List.mem_of_getElem? hg
 ·cases h
theorem least_uniq {os:Sn} {m now:Int} (h1:m≤now) (h2:∀s,some s∈os→m≤s) (h3:m=now∨some m∈os):m=leastQ os now:=by
 have a:=least_le os now
 have b:leastQ os now≤m:=by
  rcases h3 with rfl|h3
  ·exact a
  ·exact least_open h3 now
 rcases least_is os now with e|e
 ·omega
 ·have:=h2 _ e
  omega
theorem PrgQ.fl {n0:Nat} {W:World} {B:Nat→Prop} {g:Nat} {os:Sn} {fl:Int} (h:PrgQ n0 W B g os fl):W.cell? ⟨g,0,none⟩=some (.int .u64 fl)∧W.frozen? ⟨g,0,none⟩=false:=by
 obtain ⟨m,ho,_⟩:=h.is
 exact ⟨by rw [Lib.cell_of_heap ho];rfl,Lib.frozen_of_heap ho 0⟩
theorem pfloorQ_any (n0 g:Nat) (os:Sn) (fl:Int) (B:Nat→Prop) (W:World) (h:PrgQ n0 W B g os fl) :
  Calls Tryz.prog 73 #[.pointer (some ⟨g,0,none⟩)] W fun e w'=>e=.returned (.int .u64 fl)∧w'=W:=by
 have HL:=hid (aload64 g 0 fl W h.fl.1)
 clear h
 go_enter Tryz.func73,Tryz.ntmps73
 go_wp2_with fail
 refine HL.out.mono ?_
 rintro e w1 ⟨rfl,rfl⟩
 go_wp2_with fail
 go_ret
 exact ⟨rfl,rfl⟩
set_option maxHeartbeats 4000000 in
set_option maxRecDepth 100000 in
theorem pcountQ_any (n0 g:Nat) (os:Sn) (fl:Int) (B:Nat→Prop) (W:World) (h:PrgQ n0 W B g os fl) :
  Calls Tryz.prog 111 #[.pointer (some ⟨g,0,none⟩)] W fun e w'=>e=.returned (.int .i64 (countQ os:Nat))∧w'=W:=by
 obtain ⟨m,ho,hm,h1,h2,hB⟩:=h.is
 have c0:W.cell? ⟨g,1,none⟩=some (.map (some m)):=cz ho
 have hl:=fun ty=>mapG_len hm ty
 have hl':∀ty,(Builtin.len_ #[215] ty #[.map (some m)]).run Tryz.prog W=.ok (.int .i64 (countQ os:Nat)) W:=hl
 clear h ho hm hB h1 h2 hl
 go_enter Tryz.func111,Tryz.ntmps111
 go_wp2_with fail
 go_ret
 exact ⟨rfl,rfl⟩
set_option maxHeartbeats 4000000 in
set_option maxRecDepth 100000 in
theorem pstampQ_any (n0 g:Nat) (os:Sn) (fl id:Int) (B:Nat→Prop) (W:World) (h:PrgQ n0 W B g os fl) (hft:MU.fit id) :
  Calls Tryz.prog 234 #[.pointer (some ⟨g,0,none⟩),.int .i64 id] W fun e w'=>e=.returned (.tuple #[.int .u64 ((atQ os id).getD 0),.bool (atQ os id).isSome])∧w'=W:=by
 obtain ⟨m,ho,hm,h1,h2,hB⟩:=h.is
 have c0:W.cell? ⟨g,1,none⟩=some (.map (some m)):=cz ho
 have hl:(Instr.lookup 215 (.map (some m)) (.int .i64 id) true).run Tryz.prog W=.ok (.tuple #[.int .u64 ((atQ os id).getD 0),.bool (atQ os id).isSome]) W:=mapG_look_ok hm hft
 generalize atQ os id=a at *
 clear h ho hm hB h1 h2 hft
 go_enter Tryz.func234,Tryz.ntmps234
 go_wp2_with fail
 go_ret2
 exact ⟨rfl,rfl⟩
set_option maxHeartbeats 4000000 in
set_option maxRecDepth 100000 in
theorem pcloseQ_any (n0 g:Nat) (os:Sn) (fl id:Int) (B:Nat→Prop) (W:World) (h:PrgQ n0 W B g os fl) (hft:MU.fit id) :
  Calls Tryz.prog 152 #[.pointer (some ⟨g,0,none⟩),.int .i64 id] W fun e w'=>e=.returned (.bool (atQ os id).isSome)∧PTurn n0 W B g (closeQ os id) fl w':=by
 have HP:Hid _:=h
 obtain ⟨m,ho,hm,h1,h2,hB⟩:=h.is
 have c0:W.cell? ⟨g,1,none⟩=some (.map (some m)):=cz ho
 have HS:=hid (pstampQ_any n0 g os fl id B W h hft)
 have hne:g≠m:=hm.off ho
 cases ha:atQ os id with
 | none =>
  rw [ha] at HS
  have HT:Hid (PTurn n0 W B g (closeQ os id) fl W):=by show PTurn _ _ _ _ _ _ _;rw [closeQ_same ha];exact PTurn.same h
  simp only [Option.getD,Option.isSome] at HS
  clear h ho hm hB h1 h2 hft ha hne
  go_enter Tryz.func152,Tryz.ntmps152
  go_wp2_with fail
  refine HS.out.mono ?_
  rintro e w1 ⟨rfl,rfl⟩
  go_wp2_with fail
  go_ret
  exact ⟨rfl,HT.out⟩
 | some s =>
  rw [ha] at HS
  have hdel:=fun ty=>mapG_del hm hft ty
  have HDEL:Hid (∀ty,∃w2,(Builtin.delete_ #[215,3] ty #[.map (some m),.int .i64 id]).run Tryz.prog W=.ok (.tuple #[]) w2∧PTurn n0 W B g (closeQ os id) fl w2):=fun ty=>by
   obtain ⟨w2,c',hrun,hM2,hc',hg2,hs2⟩:=hdel ty
   refine ⟨w2,hrun,B,⟨m,?_,?_,h1,h2,hB⟩,?_,fun _ hk=>Or.inl hk⟩
   ·rw [closeQ_len]
    exact (hg2.block g (Array.getElem?_eq_some_iff.1 ho).1 (fun e=>hne (by injection e))).trans ho
   ·rw [closeQ_len]
    have:=count_close os id
    have hcc:c'=countQ (closeQ os id):=by rw [ha] at hc' this;omega
    rw [←hcc]
    exact hM2.congr fun k _=>(atQ_close os id k).symm
   ·exact ⟨hg2.os,hg2.tape,hg2.output,hg2.size,fun k hk hn=>hg2.block k hk fun e=>hn ((hB k).2 (Or.inr (by injection e)))⟩
  simp only [Option.getD,Option.isSome] at HS
  clear h ho hm hB h1 h2 hft ha hne hdel
  go_enter Tryz.func152,Tryz.ntmps152
  go_wp2_with fail
  refine HS.out.mono ?_
  rintro e w1 ⟨rfl,rfl⟩
  obtain ⟨w2,hrun,hT⟩:=HDEL.out 0
  have HT:=hid hT
  clear hT
  go_wp2_with fail
  go_ret
  exact ⟨rfl,HT.out⟩
set_option maxHeartbeats 4000000 in
set_option maxRecDepth 100000 in
theorem pleastQ_any (n0 g:Nat) (os:Sn) (fl now:Int) (B:Nat→Prop) (W:World) (h:PrgQ n0 W B g os fl) (hf:os.length<40000000000000) :
  Calls Tryz.prog 178 #[.pointer (some ⟨g,0,none⟩),.int .u64 now] W fun e w'=>e=.returned (.int .u64 (leastQ os now))∧PTurn n0 W B g os fl w'∧Below W.heap.size W w':=by
 have HP:=hid h
 obtain ⟨m,ho,hM,h1,h2,hB⟩:=h.is
 have c0:W.cell? ⟨g,1,none⟩=some (.map (some m)):=cz ho
 have HEND:Hid (∀(seen:List Int) (mm:Int),mm≤now→(∀k∈seen,∀s,atQ os k=some s→mm≤s)→(mm=now∨some mm∈os)→(∀k,MU.fit k→(atQ os k).isSome=true→k∈seen)→mm=leastQ os now):=fun seen mm a1 a2 a3 a4 =>
  least_uniq a1 (fun s hs=>by
   obtain ⟨i,hi,e⟩:=mem_at hs
   exact a2 _ (a4 _ (fit_q (by omega) (by omega)) (by rw [e];rfl)) s e) a3
 obtain ⟨N,hN⟩:∃N,W.heap.size=N:=⟨_,rfl⟩
 have hmN:m<N:=by rw [←hN];exact hM.lt
 clear h ho hB h1 h2
 go_enter Tryz.func178,Tryz.ntmps178
 go_wp2_with (at_range;refine wp_range_G (T:=MU) _ rfl _ rfl m os.length (atQ os) (countQ os) rfl hM ?_;intro w1 hr0 hg0 hs0)
 go_frame
 try rw [hN] at hr0
 try rw [hN]
 have HR0:=hid hr0
 have HB0:Hid (Below N W w1):=by
  have:=Fr.of_grown (P:=fun _=>False) hg0 fun k hk=>by cases hk
  exact this.below (by omega) fun k hk=>hk.elim
 clear hr0 hg0 hs0 hM
 go_loopg [5] (countQ os) (fun gg vn wr=>∃(seen:List Int) (cnt:Nat) (mm:Int),vn=.int .u64 mm∧cnt≤gg∧Hid (RangeG MU wr m N os.length (atQ os) (countQ os) seen cnt)∧Hid (Below N W wr)∧Hid (mm≤now∧(∀k∈seen,∀s,atQ os k=some s→mm≤s)∧(mm=now∨some mm∈os)))
 case atStart=>exact ⟨[],countQ os,now,rfl,Nat.le_refl _,HR0.out,HB0.out,⟨Int.le_refl _,(fun k hk=>by simp at hk),Or.inl rfl⟩⟩
 case round =>
  clear HR0 HB0
  obtain ⟨seen,cnt,mm,rfl,hgk,HR,HB,HI⟩:=hrel
  have hr:=HR.out
  go_wp2_with (at_next;refine wp_next_G (T:=MU) _ rfl _ rfl m N os.length (atQ os) (countQ os) seen cnt rfl hr ?_ ?_)
  ·intro hall
   have HE:=hid (HEND.out seen mm HI.out.1 HI.out.2.1 HI.out.2.2 hall)
   clear hall hr
   go_wp2_with fail
   go_ret
   rw [HE.out,hN]
   exact ⟨rfl,PTurn.below HP.out (by rw [hN];exact HB.out),HB.out⟩
  ·intro k s w2 cnt2 hkf hks hfb hr2 hlt hg2 hs2 hen
   have hB2:Below N W w2:=by
    have:=Fr.of_grown (P:=fun b=>b=N) hg2 fun k hk=>by injection hk with hk;exact hk.symm
    exact HB.out.trans (this.below (by have:=hr.lt;omega) fun k hk=>by omega)
   have HR2:=hid hr2
   have HB2:=hid hB2
   have hen':(Instr.entry (.pointer (some ⟨N,0,none⟩))).run Tryz.prog w2=.ok (.tuple #[.int .i64 k,.int .u64 s]) w2:=hen
   have HFB:=hid hfb
   have ek:MU.key k=.int .i64 k:=rfl
   have ev:MU.val s=.int .u64 s:=rfl
   rw [ek,ev]
   clear ek ev
   clear hr hr2 hB2 hg2 hfb hkf hks hen
   have HI2:Hid (min mm s≤now∧(∀k'∈seen++[k],∀s',atQ os k'=some s'→min mm s≤s')∧(min mm s=now∨some (min mm s)∈os)):=by
    obtain ⟨a1,a2,a3⟩:=HI.out
    refine ⟨by omega,fun k' hk' s' hs'=>?_,?_⟩
    ·rcases List.mem_append.1 hk' with h|h
     ·have:=a2 k' h s' hs'
      omega
     ·rw [List.mem_singleton] at h
      subst h
      rw [HFB.out] at hs'
      injection hs' with hs'
      omega
    ·by_cases hsm:s≤mm
     ·rw [Int.min_eq_right hsm]
      exact Or.inr (at_memQ HFB.out)
     ·rw [Int.min_eq_left (by omega)]
      exact a3
   go_wp2_with fail
   go_roundg cnt2
   case measure=>omega
   exact ⟨seen++[k],cnt2,min mm s,rfl,Nat.le_refl _,HR2,HB2,HI2⟩
theorem PrgQ.raised {n0:Nat} {W:World} {B:Nat→Prop} {g:Nat} {os:Sn} {fl:Int} (h:PrgQ n0 W B g os fl) (f:Int):PTurn n0 W B g os f (W.setCell ⟨g,0,none⟩ (.int .u64 f)):=by
 obtain ⟨m,ho,hM,h1,h2,hB⟩:=h.is
 refine ⟨B,⟨m,heap_setCell_same W g 0 _ _ _ ho,hM.on (heap_setCell_other W _ m _ fun e=>hM.off ho e.symm),h1,h2,hB⟩,?_,fun _ hk=>Or.inl hk⟩
 exact ⟨rfl,rfl,rfl,by simp,fun k _ hn=>heap_setCell_other W _ k _ fun e=>hn ((hB k).2 (Or.inl e))⟩
theorem PTurn.then {n0:Nat} {W w1 w':World} {B:Nat→Prop} {g:Nat} {os:Sn} {fl:Int} (hb:Below W.heap.size W w1) (h:PTurn n0 w1 B g os fl w'):PTurn n0 W B g os fl w':=by
 obtain ⟨B',h1,h2,h3⟩:=h
 refine ⟨B',h1,(Fr.of_below (P:=B) hb).then h2 fun k hk=>Or.inl hk,fun k hk=>(h3 k hk).imp id fun h=>Nat.le_trans hb.size h⟩
set_option maxHeartbeats 4000000 in
set_option maxRecDepth 100000 in
theorem praiseQ_any (n0 g:Nat) (os:Sn) (fl f:Int) (B:Nat→Prop) (W:World) (h:PrgQ n0 W B g os fl) (hf:os.length<40000000000000) :
  Calls Tryz.prog 113 #[.pointer (some ⟨g,0,none⟩),.int .u64 f] W fun e w'=>e=.returned (.int .i64 (raiseQ os fl f).1)∧PTurn n0 W B g os (raiseQ os fl f).2 w':=by
 have HP:=hid h
 have HL:=hid (aload64 g 0 fl W h.fl.1)
 have HLE:=hid (pleastQ_any n0 g os fl f B W h hf)
 clear h
 by_cases h8:f<fl
 ·have HR:Hid (raiseQ os fl f=(8,fl)):=by show _=_;unfold raiseQ;rw [if_pos h8]
  go_enter Tryz.func113,Tryz.ntmps113
  go_wp2_with fail
  refine HL.out.mono ?_
  rintro e w1 ⟨rfl,rfl⟩
  go_wp2_with fail
  go_ret
  rw [HR.out]
  exact ⟨rfl,PTurn.same HP.out⟩
 ·have HR:Hid (raiseQ os fl f=if leastQ os f<f then (1,fl) else (0,f)):=by
   show _=_
   unfold raiseQ
   rw [if_neg h8,low_least]
   by_cases h:leastQ os f<f<;>simp [h]
  go_enter Tryz.func113,Tryz.ntmps113
  go_wp2_with fail
  refine HL.out.mono ?_
  rintro e w1 ⟨rfl,rfl⟩
  go_wp2_with fail
  refine HLE.out.mono ?_
  rintro e w2 ⟨rfl,ht2,hb2⟩
  have HT2:=hid ht2
  have HB2:=hid hb2
  have HP2:=hid (HP.out.on hb2)
  have HST:=hid (astore64 g 0 fl f w2 HP2.out.fl.1 HP2.out.fl.2)
  clear ht2 hb2
  generalize leastQ os f=L at *
  by_cases hl:L<f
  ·go_wp2_with fail
   go_ret
   rw [HR.out,if_pos hl]
   exact ⟨rfl,HT2.out⟩
  ·go_wp2_with fail
   refine HST.out.mono ?_
   rintro e w3 ⟨rfl,rfl⟩
   go_wp2_with fail
   go_ret
   rw [HR.out,if_neg (by omega)]
   exact ⟨rfl,PTurn.then HB2.out (HP2.out.raised f)⟩
end
section
open Go.RowKit
def DirS (n0 g n:Nat) (D:List RowD) (W:World):Prop:=∃m G,DirM n0 W g m n G D
theorem DirS.on {n0 g n:Nat} {D:List RowD} {W W':World} (h:DirS n0 g n D W) (hb:Below W.heap.size W W'):DirS n0 g n D W':=by
 obtain ⟨m,G,h⟩:=h
 exact ⟨m,G,h.on hb⟩
theorem DirS.may {n0 g n:Nat} {D:List RowD} {W:World} (h:DirS n0 g n D W) (k:Ky):∀v∈ofD D k,mayB v.val=true:=by
 obtain ⟨m,G,h⟩:=h
 intro v hv
 have hne:ofD D k≠[]:=by intro e;rw [e] at hv;simp at hv
 obtain ⟨h1,h2⟩:=h.prg k hne
 rw [←h2] at hv
 obtain ⟨x,hx,rfl⟩:=List.mem_map.1 hv
 exact (h1.each x hx).2
theorem s_new (w:World):Calls Tryz.prog 53 #[] w fun e w'=>e=.returned (.pointer (some ⟨w.heap.size+1,0,none⟩))∧DirS w.heap.size (w.heap.size+1) 0 [] w'∧Below w.heap.size w w':=by
 have hmm:=@run_makeMap Tryz.prog
 have hb:Below w.heap.size w ((w.alloc (.map #[] 0)).alloc (.cells #[.map (some w.heap.size)] 202)):=((Below.refl _ _).alloc (Nat.le_refl _) _).alloc (by simp) _
 have HM:Hid (DirM w.heap.size ((w.alloc (.map #[] 0)).alloc (.cells #[.map (some w.heap.size)] 202)) (w.heap.size+1) w.heap.size 0 (fun _=>⟨0,[],.slice none 0 0⟩) []):=by
  have h1:=heap_alloc_new (w.alloc (.map #[] 0)) (.cells #[.map (some w.heap.size)] 202)
  rw [World.size_alloc] at h1
  refine ⟨by rw [Lib.cell_of_heap h1];rfl,by omega,Nat.le_refl _,?_,fun k hk=>absurd rfl hk,fun k1 k2 hk=>absurd rfl hk,fun k hk=>absurd rfl hk,okD_nil,fun k hk=>absurd rfl hk,fun k=>by show (0:Int)≤_;omega,Nat.le_refl _⟩
  exact (mapD_made w).on (Below.heap_alloc _ _ _ (by simp))
 have HB:=hid hb
 clear hb
 go_enter Tryz.func53,Tryz.ntmps53
 go_wp2_with fail
 go_ret
 exact ⟨rfl,⟨_,_,HM.out⟩,HB.out⟩
section
variable {n0 g n:Nat} {D:List RowD} {W:World}
theorem s_at (h:DirS n0 g n D W) (k:Ky) (hk:FitK k) (t:Int):Calls Tryz.prog 110 #[.pointer (some ⟨g,0,none⟩),.agg #[.string k.1,.string k.2],.int .u64 t] W fun e w'=>VAns W (atV (ofD D k) t) e w':=by
 obtain ⟨m,G,h⟩:=h;exact dat_any h k hk t
theorem s_last (h:DirS n0 g n D W) (k:Ky) (hk:FitK k):Calls Tryz.prog 228 #[.pointer (some ⟨g,0,none⟩),.agg #[.string k.1,.string k.2]] W fun e w'=>VAns W (ofD D k).getLast? e w':=by
 obtain ⟨m,G,h⟩:=h;exact dlast_any h k hk
theorem s_scan (h:DirS n0 g n D W) (hn:n≤1760000000000) (typ:ByteArray) (t:Int) (pa:Option Addr) (pc:Nat) (pt:List Tm) (hp:KM.Is W (.slice pa pt.length pc) pt) (hpf:FitM pt):Calls Tryz.prog 98 #[.pointer (some ⟨g,0,none⟩),.string typ,.int .u64 t,.slice pa pt.length pc] W fun e w'=>FdPost W (scanD D typ t (matchM pt)) e w':=by
 obtain ⟨m,G,h⟩:=h;exact dscan_any h hn typ t pa pc pt hp hpf
theorem s_count (h:DirS n0 g n D W) (hn:n≤2400000000000):Calls Tryz.prog 91 #[.pointer (some ⟨g,0,none⟩)] W fun e w'=>e=.returned (.int .i64 (countD D:Nat))∧Below W.heap.size W w':=by
 obtain ⟨m,G,h⟩:=h;exact dcount_any h hn
end
end
section
open Go.RowKit
abbrev Part:=World→(Nat→Prop)→Prop
structure Good (n0:Nat) (Q:Part):Prop where
 fr:∀{W W':World} {B P:Nat→Prop},Q W B→Fr P W W'→(∀k,B k→¬ P k)→Q W' B
 blk:∀{W:World} {B:Nat→Prop},Q W B→∀k,B k→n0≤k∧k<W.heap.size
def Has (Q:Part) (W:World) (c:Nat→Nat) (p:Nat):Prop:=∃B,Q W B∧∀k,B k→c k=p
theorem Has.fr {n0:Nat} {Q:Part} (hg:Good n0 Q) {W W':World} {c c':Nat→Nat} {p:Nat} {P:Nat→Prop} (h:Has Q W c p) (f:Fr P W W') (hc:∀k,k<W.heap.size→c' k=c k) (hP:∀k,k<W.heap.size→P k→c k≠p):Has Q W' c' p:=by
 obtain ⟨B,h1,h2⟩:=h
 exact ⟨B,hg.fr h1 f fun k hk e=>hP k (hg.blk h1 k hk).2 e (h2 k hk),fun k hk=>(hc k (hg.blk h1 k hk).2).trans (h2 k hk)⟩
def noneP:Part:=fun _ B=>∀k,¬ B k
def objP (n0 g:Nat) (cs:List Value) (T:TypeId):Part:=fun W B=>W.heap[g]? = some (.cells cs.toArray T (0,0))∧n0≤g∧∀k,B k↔k=g
def dirP (n0 g n:Nat) (D:List RowD):Part:=fun W B=>∃m G,DirM n0 W g m n G D∧∀k,B k↔BlkD g m G D k
def trkP (n0 g:Nat) (t:Tk):Part:=fun W B=>PrgT13 n0 W B g t
def snpP (n0 g:Nat) (os:Sn) (fl:Int):Part:=fun W B=>PrgQ n0 W B g os fl
def wrtP (n0 g:Nat) (L:List RowW):Part:=fun W B=>PrgW n0 W B g L
def mksP (n0:Nat) (m:Mx):Part:=fun W B=>RMk n0 W m∧∀k,B k↔BlkM15 m k
theorem good_none (n0:Nat):Good n0 noneP:=⟨fun h _ _=>h,fun h k hk=>(h k hk).elim⟩
theorem good_obj (n0 g:Nat) (cs:List Value) (T:TypeId):Good n0 (objP n0 g cs T) :=
 ⟨fun h f hP=>⟨(f.block g (Array.getElem?_eq_some_iff.1 h.1).1 (hP g ((h.2.2 g).2 rfl))).trans h.1,h.2⟩,fun h k hk=>by
  rw [(h.2.2 k).1 hk]
  exact ⟨h.2.1,(Array.getElem?_eq_some_iff.1 h.1).1⟩⟩
theorem good_dir (n0 g n:Nat) (D:List RowD):Good n0 (dirP n0 g n D) :=
 ⟨fun ⟨m,G,h,hB⟩ f hP=>⟨m,G,h.fr f fun b hb=>hP b ((hB b).2 hb),hB⟩,fun ⟨_,_,h,hB⟩ k hk=>h.blk k ((hB k).1 hk)⟩
theorem good_trk (n0 g:Nat) (t:Tk):Good n0 (trkP n0 g t):=by
 constructor
 ·rintro W W' B P ⟨ds,va,last,h,rfl⟩ f hP
  exact ⟨ds,va,last,h.fr f hP,rfl⟩
 ·rintro W B ⟨ds,va,last,h,rfl⟩ k hk
  exact h.blk k hk
theorem good_snp (n0 g:Nat) (os:Sn) (fl:Int):Good n0 (snpP n0 g os fl):=⟨fun h f hP=>PrgQ.fr h f hP,fun h k hk=>PrgQ.blk h k hk⟩
theorem good_wrt (n0 g:Nat) (L:List RowW):Good n0 (wrtP n0 g L):=⟨fun ⟨m,F,O,h⟩ f hP=>⟨m,F,O,h.fr f hP⟩,fun ⟨_,_,_,h⟩ k hk=>h.bounds k hk⟩
theorem good_mks (n0:Nat) (m:Mx):Good n0 (mksP n0 m):=⟨fun h f hP=>⟨h.1.fr f fun k hk=>hP k ((h.2 k).2 hk),h.2⟩,fun h k hk=>h.1.blk k ((h.2 k).1 hk)⟩
theorem has_none (W:World) (c:Nat→Nat) (p:Nat):Has noneP W c p:=⟨fun _=>False,fun _ h=>h,fun _ h=>h.elim⟩
structure Px where
 g:Nat
 snap:Int
 id:Int
 ended:Bool
 m:Mx
 gw:Nat
 L:List RowW
 deriving Inhabited
def Px.tx (x:Px):Tx:=⟨x.snap,x.ended,x.m.mk',x.L⟩
def Px.load (x:Px):Nat:=if x.ended then 0 else x.L.length
def encPx (h:Nat) (x:Px):List Value:=if x.ended then [.int .u64 x.snap,.int .i64 0,.pointer none,.pointer none,.slice none 0 0,.slice none 0 0] else [.int .u64 x.snap,.int .i64 x.id,.pointer (some ⟨h,0,none⟩),.pointer (some ⟨x.gw,0,none⟩),x.m.ksl,x.m.rsl]
structure Ps where
 h:Nat
 vers:Int
 hd:Nat
 hs:Nat
 hc:Nat
 hq:Nat
 ht:Nat
 nv:Nat
 D:List RowD
 last:Int
 tick:Int
 floor:Int
 os:Sn
 tk:Tk
 xs:List Px
def Ps.sv (s:Ps):Sv:=⟨s.vers,s.D,s.last,s.tick,s.floor,s.tk,s.xs.map Px.tx⟩
def encPs (s:Ps):List Value:=[.pointer (some ⟨s.hd,0,none⟩),.pointer (some ⟨s.hs,0,none⟩),.pointer (some ⟨s.hc,0,none⟩),.pointer (some ⟨s.hq,0,none⟩),.pointer (some ⟨s.ht,0,none⟩),.int .i64 s.vers]
def partX (n0 h:Nat) (x:Px) (r:Nat):Part:=if r=0 then objP n0 x.g (encPx h x) 163 else if x.ended then noneP else if r=1 then wrtP n0 x.gw x.L else mksP n0 x.m
def partS (n0:Nat) (s:Ps) (p:Nat):Part :=
 if p=1 then objP n0 s.h (encPs s) 146
 else if p=2 then dirP n0 s.hd s.nv s.D
 else if p=3 then trkP n0 s.ht s.tk
 else if p=4 then snpP n0 s.hq s.os s.floor
 else if p=5 then objP n0 s.hs [.int .u64 s.last] 209
 else if p=6 then objP n0 s.hc [.int .i64 s.tick] 214
 else if p<7 then noneP
 else match s.xs[(p-7) / 3]? with
  | none=>noneP
  | some x=>partX n0 s.h x ((p-7) % 3)
theorem good_x (n0 h:Nat) (x:Px) (r:Nat):Good n0 (partX n0 h x r):=by
 unfold partX
 split
 ·exact good_obj _ _ _ _
 ·split
  ·exact good_none _
  ·split
   ·exact good_wrt _ _ _
   ·exact good_mks _ _
theorem good_s (n0:Nat) (s:Ps) (p:Nat):Good n0 (partS n0 s p):=by
 unfold partS
 split
 ·exact good_obj _ _ _ _
 split
 ·exact good_dir _ _ _ _
 split
 ·exact good_trk _ _ _
 split
 ·exact good_snp _ _ _ _
 split
 ·exact good_obj _ _ _ _
 split
 ·exact good_obj _ _ _ _
 split
 ·exact good_none _
 split
 ·exact good_none _
 ·exact good_x _ _ _ _
theorem part_tx (n0:Nat) (s:Ps) {i r:Nat} (hr:r<3) {x:Px} (hx:s.xs[i]? = some x):partS n0 s (7+3 * i+r)=partX n0 s.h x r:=by
 unfold partS
 rw [if_neg (by omega),if_neg (by omega),if_neg (by omega),if_neg (by omega),if_neg (by omega),if_neg (by omega),if_neg (by omega),show (7+3 * i+r-7) / 3=i by omega,show (7+3 * i+r-7) % 3=r by omega,hx]
structure PrgB (n0:Nat) (W:World) (s:Ps) (c:Nat→Nat):Prop where
 part:∀p,Has (partS n0 s p) W c p
 out:∀k,W.heap.size≤k→c k=0
section
variable {n0:Nat} {W:World} {s:Ps} {c:Nat→Nat}
theorem PrgB.fr {W':World} {P:Nat→Prop} (x:PrgB n0 W s c) (f:Fr P W W') (hP:∀k,k<W.heap.size→P k→c k=0):PrgB n0 W' s c :=
 ⟨fun p=>by
  by_cases h0:p=0
  ·subst h0
   exact has_none _ _ _
  ·exact (x.part p).fr (good_s n0 s p) f (fun _ _=>rfl) fun k hk e=>by rw [hP k hk e];omega,fun k hk=>x.out k (Nat.le_trans f.size hk)⟩
theorem PrgB.on {W':World} (x:PrgB n0 W s c) (hb:Below W.heap.size W W'):PrgB n0 W' s c:=x.fr (P:=fun _=>False) (Fr.of_below hb) fun _ _ k=>k.elim
theorem PrgB.step {W':World} {P:Nat→Prop} {s':Ps} {c':Nat→Nat} (x:PrgB n0 W s c) (f:Fr P W W') (hc:∀k,k<W.heap.size→c' k=c k) (ho:∀k,W'.heap.size≤k→c' k=0)
  (hp:∀p,Has (partS n0 s' p) W' c' p∨(partS n0 s' p=partS n0 s p∧∀k,k<W.heap.size→P k→c k≠p)):PrgB n0 W' s' c' :=
 ⟨fun p=>(hp p).elim id fun ⟨e,h⟩=>by
  rw [e]
  exact (x.part p).fr (good_s n0 s p) f hc h,ho⟩
theorem PrgB.turn {w':World} {s':Ps} (x:PrgB n0 W s c) (p:Nat) {B B':Nat→Prop} (hB:∀k,B k→c k=p) (f:Fr B W w') (hQ:partS n0 s' p w' B') (hB':∀k,B' k→B k∨W.heap.size≤k) (hsame:∀q,q≠p→partS n0 s' q=partS n0 s q) (hBl:∀k,B k→k<W.heap.size) :
  PrgB n0 w' s' (lab W B' c p):=by
 refine x.step f (fun k hk=>lab_old hk) (fun k hk=>?_) fun q=>?_
 ·exact lab_out (Nat.le_trans f.size hk) fun h=>by have:=((good_s n0 s' p).blk hQ k h).2;omega
 ·by_cases e:q=p
  ·subst e
   refine Or.inl ⟨B',hQ,fun k hk=>lab_in ((hB' k hk).imp (fun h=>⟨hBl k h,hB k h⟩) id) hk⟩
  ·refine Or.inr ⟨hsame q e,fun k hk h=>?_⟩
   rw [hB k h]
   exact fun h=>e h.symm
theorem PrgB.setX {W':World} {P:Nat→Prop} {c':Nat→Nat} (x:PrgB n0 W s c) (i:Nat) (y:Px) (f:Fr P W W') (hP:∀k,k<W.heap.size→P k→7+3 * i≤c k∧c k≤9+3 * i) (hc:∀k,k<W.heap.size→c' k=c k) (ho:∀k,W'.heap.size≤k→c' k=0) (hi:i<s.xs.length)
  (hx:∀r,r<3→Has (partX n0 s.h y r) W' c' (7+3 * i+r)∨(partX n0 s.h y r=partX n0 s.h (s.xs[i]) r∧∀k,k<W.heap.size→P k→c k≠7+3 * i+r)):PrgB n0 W' { s with xs:=s.xs.set i y } c':=by
 refine x.step f hc ho fun p=>?_
 by_cases h7:p<7
 ·refine Or.inr ⟨?_,fun k hk h=>by have:=hP k hk h;omega⟩
  unfold partS
  simp only [h7,if_true]
  rfl
 ·have hsy:(s.xs.set i y)[i]? = some y:=by simp [hi]
  have hsi:s.xs[i]? = some s.xs[i]:=List.getElem?_eq_getElem hi
  by_cases e:(p-7) / 3=i
  ·obtain ⟨r,hr,hpr⟩:∃r,r<3∧p=7+3 * i+r:=⟨(p-7) % 3,Nat.mod_lt _ (by omega),by omega⟩
   subst hpr
   rw [part_tx n0 { s with xs:=s.xs.set i y } hr hsy,part_tx n0 s hr hsi]
   exact hx r hr
  ·refine Or.inr ⟨?_,fun k hk h=>by have:=hP k hk h;omega⟩
   unfold partS
   rw [if_neg (by omega),if_neg (by omega),if_neg (by omega),if_neg (by omega),if_neg (by omega),if_neg (by omega),if_neg (by omega),if_neg (by omega),if_neg (by omega),if_neg (by omega),if_neg (by omega),if_neg (by omega),if_neg (by omega),if_neg (by omega)]
   show (match (s.xs.set i y)[(p-7) / 3]? with|none=>noneP|some x=>partX n0 s.h x ((p-7) % 3))=_
   rw [List.getElem?_set_ne (Ne.symm e)]
theorem PrgB.obj (x:PrgB n0 W s c):W.heap[s.h]? = some (.cells (encPs s).toArray 146 (0,0))∧n0≤s.h∧c s.h=1:=by
 obtain ⟨B,h1,h2⟩:=x.part 1
 have h1:objP n0 s.h (encPs s) 146 W B:=h1
 exact ⟨h1.1,h1.2.1,h2 _ ((h1.2.2 _).2 rfl)⟩
theorem PrgB.lt (x:PrgB n0 W s c):s.h<W.heap.size:=(Array.getElem?_eq_some_iff.1 x.obj.1).1
theorem PrgB.base (x:PrgB n0 W s c):n0≤W.heap.size:=Nat.le_of_lt (Nat.lt_of_le_of_lt x.obj.2.1 x.lt)
theorem PrgB.cells (x:PrgB n0 W s c):W.cell? ⟨s.h,0,none⟩=some (.pointer (some ⟨s.hd,0,none⟩))∧W.cell? ⟨s.h,1,none⟩=some (.pointer (some ⟨s.hs,0,none⟩))∧W.cell? ⟨s.h,2,none⟩=some (.pointer (some ⟨s.hc,0,none⟩))∧W.cell? ⟨s.h,3,none⟩=some (.pointer (some ⟨s.hq,0,none⟩))∧W.cell? ⟨s.h,4,none⟩=some (.pointer (some ⟨s.ht,0,none⟩))∧W.cell? ⟨s.h,5,none⟩=some (.int .i64 s.vers):=by
 refine ⟨?_,?_,?_,?_,?_,?_⟩<;>rw [Lib.cell_of_heap x.obj.1]<;>rfl
theorem PrgB.dir (x:PrgB n0 W s c):∃m G,DirM n0 W s.hd m s.nv G s.D∧∀k,BlkD s.hd m G s.D k→c k=2:=by
 obtain ⟨B,⟨m,G,h1,h2⟩,h3⟩:=x.part 2
 exact ⟨m,G,h1,fun k hk=>h3 k ((h2 k).2 hk)⟩
theorem PrgB.dirS (x:PrgB n0 W s c):DirS n0 s.hd s.nv s.D W:=by
 obtain ⟨m,G,h,_⟩:=x.dir
 exact ⟨m,G,h⟩
theorem PrgB.trk (x:PrgB n0 W s c):∃B,PrgT13 n0 W B s.ht s.tk∧∀k,B k→c k=3:=x.part 3
theorem PrgB.snp (x:PrgB n0 W s c):∃B,PrgQ n0 W B s.hq s.os s.floor∧∀k,B k→c k=4:=x.part 4
theorem PrgB.cnt (x:PrgB n0 W s c):W.heap[s.hs]? = some (.cells #[.int .u64 s.last] 209 (0,0))∧n0≤s.hs∧c s.hs=5:=by
 obtain ⟨B,h1,h2⟩:=x.part 5
 have h1:objP n0 s.hs [.int .u64 s.last] 209 W B:=h1
 exact ⟨h1.1,h1.2.1,h2 _ ((h1.2.2 _).2 rfl)⟩
theorem PrgB.clk (x:PrgB n0 W s c):W.heap[s.hc]? = some (.cells #[.int .i64 s.tick] 214 (0,0))∧n0≤s.hc∧c s.hc=6:=by
 obtain ⟨B,h1,h2⟩:=x.part 6
 have h1:objP n0 s.hc [.int .i64 s.tick] 214 W B:=h1
 exact ⟨h1.1,h1.2.1,h2 _ ((h1.2.2 _).2 rfl)⟩
theorem PrgB.txp (x:PrgB n0 W s c) (i:Nat) (hi:i<s.xs.length) (r:Nat) (hr:r<3):Has (partX n0 s.h s.xs[i] r) W c (7+3 * i+r):=by
 have h:=x.part (7+3 * i+r)
 rw [part_tx n0 s hr (List.getElem?_eq_getElem hi)] at h
 exact h
theorem PrgB.txo (x:PrgB n0 W s c) (i:Nat) (hi:i<s.xs.length):W.heap[(s.xs[i]).g]? = some (.cells (encPx s.h s.xs[i]).toArray 163 (0,0))∧n0≤(s.xs[i]).g∧c (s.xs[i]).g=7+3 * i:=by
 obtain ⟨B,h1,h2⟩:=x.txp i hi 0 (by omega)
 have h1:objP n0 (s.xs[i]).g (encPx s.h s.xs[i]) 163 W B:=h1
 exact ⟨h1.1,h1.2.1,h2 _ ((h1.2.2 _).2 rfl)⟩
theorem PrgB.txw (x:PrgB n0 W s c) (i:Nat) (hi:i<s.xs.length) (he:(s.xs[i]).ended=false):∃B,PrgW n0 W B (s.xs[i]).gw (s.xs[i]).L∧∀k,B k→c k=8+3 * i:=by
 obtain ⟨B,h1,h2⟩:=x.txp i hi 1 (by omega)
 unfold partX at h1
 rw [if_neg (by omega),he,if_neg (by decide),if_pos rfl] at h1
 exact ⟨B,h1,fun k hk=>by rw [h2 k hk];omega⟩
theorem PrgB.txm (x:PrgB n0 W s c) (i:Nat) (hi:i<s.xs.length) (he:(s.xs[i]).ended=false):RMk n0 W (s.xs[i]).m∧∀k,BlkM15 (s.xs[i]).m k→c k=9+3 * i:=by
 obtain ⟨B,h1,h2⟩:=x.txp i hi 2 (by omega)
 unfold partX at h1
 rw [if_neg (by omega),he,if_neg (by decide),if_neg (by omega)] at h1
 exact ⟨h1.1,fun k hk=>by rw [h2 k ((h1.2 k).2 hk)];omega⟩
theorem PrgB.xcells (x:PrgB n0 W s c) (i:Nat) (hi:i<s.xs.length) (he:(s.xs[i]).ended=false):W.cell? ⟨(s.xs[i]).g,0,none⟩=some (.int .u64 (s.xs[i]).snap)∧W.cell? ⟨(s.xs[i]).g,1,none⟩=some (.int .i64 (s.xs[i]).id)∧W.cell? ⟨(s.xs[i]).g,2,none⟩=some (.pointer (some ⟨s.h,0,none⟩))∧W.cell? ⟨(s.xs[i]).g,3,none⟩=some (.pointer (some ⟨(s.xs[i]).gw,0,none⟩))∧W.cell? ⟨(s.xs[i]).g,4,none⟩=some (s.xs[i]).m.ksl∧W.cell? ⟨(s.xs[i]).g,5,none⟩=some (s.xs[i]).m.rsl:=by
 have h:=(x.txo i hi).1
 unfold encPx at h
 rw [he,if_neg (by decide)] at h
 refine ⟨?_,?_,?_,?_,?_,?_⟩<;>rw [Lib.cell_of_heap h]<;>rfl
theorem PrgB.xends (x:PrgB n0 W s c) (i:Nat) (hi:i<s.xs.length) (he:(s.xs[i]).ended=true):W.cell? ⟨(s.xs[i]).g,0,none⟩=some (.int .u64 (s.xs[i]).snap)∧W.cell? ⟨(s.xs[i]).g,2,none⟩=some (.pointer none):=by
 have h:=(x.txo i hi).1
 unfold encPx at h
 rw [he,if_pos rfl] at h
 refine ⟨?_,?_⟩<;>rw [Lib.cell_of_heap h]<;>rfl
end
structure FitS (nr:Nat) (s:Ps):Prop where
 room:s.nv+(s.xs.map Px.load).sum≤nr
 nx:s.xs.length≤nr
 mks:∀x∈s.xs,x.ended=false→(x.m.ks.length≤nr∧x.m.rs.length≤nr∧(∀k∈x.m.ks,FitKy12 k)∧NrmM x.m.mk')
 ids:∀i,(hi:i<s.xs.length)→(s.xs[i]).ended=false→(s.xs[i]).id=(i:Int)+1
 os:s.os=openS s.sv
 ok:OkS s.sv
 v4:s.vers≤4096
def StoP (n0 nr:Nat) (W:World) (h:Nat) (gs:List Nat) (S:Sv) (c:Nat→Nat):Prop:=∃s:Ps,PrgB n0 W s c∧FitS nr s∧s.h=h∧s.xs.map Px.g=gs∧s.sv=S
def StepP (n0 nr:Nat) (W:World) (h:Nat) (gs:List Nat) (c:Nat→Nat) (S':Sv) (w':World):Prop :=
 ∃c',StoP n0 nr w' h gs S' c'∧Fr (fun k=>c k≠0) W w'∧∀k,k<W.heap.size→c' k=c k
end
section
open Go.RowKit
theorem fr_set15 (w:World) (G j:Nat) (u:Value):Fr (fun b=>b=G) w (w.setCell ⟨G,j,none⟩ u):=⟨rfl,rfl,rfl,by simp,fun k _ hn=>heap_setCell_other _ _ k _ hn⟩
theorem sum_set:∀(l:List Px) (i:Nat) (hi:i<l.length) (y:Px),((l.set i y).map Px.load).sum+(l[i]).load=(l.map Px.load).sum+y.load
 | [],i,hi,y=>by simp at hi
 | x::l,0,hi,y=>by simp;omega
 | x::l,i+1,hi,y=>by
  have:=sum_set l i (by simpa using hi) y
  simp only [List.set_cons_succ,List.map_cons,List.sum_cons,List.getElem_cons_succ]
  omega
theorem load_le:∀(l:List Px) (i:Nat) (hi:i<l.length),(l[i]).load≤(l.map Px.load).sum
 | [],i,hi=>by simp at hi
 | x::l,0,hi=>by simp
 | x::l,i+1,hi=>by
  have:=load_le l i (by simpa using hi)
  simp only [List.map_cons,List.sum_cons,List.getElem_cons_succ]
  omega
theorem openS_set (S:Sv) (i:Nat) (y:Tx):openS (setS S i y)=(openS S).set i (if y.ended then none else some y.snap):=by
 unfold openS setS
 simp only [List.map_set]
theorem openS_len (S:Sv):(openS S).length=S.txs.length:=by unfold openS;rw [List.length_map]
theorem openS_get (S:Sv) (i:Nat) (hi:i<S.txs.length):(openS S)[i]? = some (if (S.txs[i]).ended then none else some (S.txs[i]).snap):=by
 unfold openS
 rw [List.getElem?_map,List.getElem?_eq_getElem hi]
 rfl
theorem set_self {α:Type}:∀(l:List α) (i:Nat) (x:α),l[i]? = some x→l.set i x=l
 | [],i,x,h=>by simp
 | y::l,0,x,h=>by simp at h;simp [h]
 | y::l,i+1,x,h=>by
  simp only [List.set_cons_succ]
  rw [set_self l i x (by simpa using h)]
theorem map_tx {s:Ps} {i:Nat} (hi:i<s.xs.length):s.sv.txs[i]? = some (s.xs[i]).tx:=by
 show (s.xs.map Px.tx)[i]? = _
 rw [List.getElem?_map,List.getElem?_eq_getElem hi]
 rfl
theorem sv_set (s:Ps) (i:Nat) (y:Px):({ s with xs:=s.xs.set i y }:Ps).sv=setS s.sv i y.tx:=by
 unfold Ps.sv setS
 simp only [List.map_set]
theorem set_g (l:List Px) (i:Nat) (hi:i<l.length) (y:Px) (hg:y.g=(l[i]).g):(l.set i y).map Px.g=l.map Px.g:=by
 rw [List.map_set]
 refine set_self _ _ _ ?_
 rw [List.getElem?_map,List.getElem?_eq_getElem hi,hg]
 rfl
section
variable {nr:Nat} {s:Ps}
theorem FitS.load (h:FitS nr s) {i:Nat} (hi:i<s.xs.length) (he:(s.xs[i]).ended=false):s.nv+(s.xs[i]).L.length≤nr:=by
 have h1:=load_le s.xs i hi
 have h2:=h.room
 have h3:(s.xs[i]).load=(s.xs[i]).L.length:=by unfold Px.load;rw [he];rfl
 omega
theorem FitS.marks (h:FitS nr s) {i:Nat} (hi:i<s.xs.length) (he:(s.xs[i]).ended=false):(s.xs[i]).m.ks.length≤nr∧(s.xs[i]).m.rs.length≤nr∧(∀k∈(s.xs[i]).m.ks,FitKy12 k)∧NrmM (s.xs[i]).m.mk':=h.mks _ (List.getElem_mem hi) he
theorem FitS.okx (h:FitS nr s) {i:Nat} (hi:i<s.xs.length):OkX s.D s.floor s.last (s.xs[i]).tx:=h.ok.txs _ (List.mem_map_of_mem (List.getElem_mem hi))
theorem FitS.mono {nr':Nat} (h:FitS nr s) (hn:nr≤nr'):FitS nr' s :=
 ⟨Nat.le_trans h.room hn,Nat.le_trans h.nx hn,fun x hx he=>⟨Nat.le_trans (h.mks x hx he).1 hn,Nat.le_trans (h.mks x hx he).2.1 hn,(h.mks x hx he).2.2⟩,h.ids,h.os,h.ok,h.v4⟩
theorem FitS.setX {nr':Nat} (h:FitS nr s) {i:Nat} (hi:i<s.xs.length) (y:Px) (hn:nr≤nr') (hload:y.load+nr≤(s.xs[i]).load+nr') (hmk:y.m.ks.length≤nr'∧y.m.rs.length≤nr'∧(∀k∈y.m.ks,FitKy12 k)∧NrmM y.m.mk') (hid:y.id=(s.xs[i]).id) (hsn:y.snap=(s.xs[i]).snap) (hen:y.ended=(s.xs[i]).ended) (hok:OkX s.D s.floor s.last y.tx):FitS nr' { s with xs:=s.xs.set i y }:=by
 refine ⟨?_,?_,fun x hx he=>?_,fun j hj he=>?_,?_,?_,h.v4⟩
 ·have h1:=sum_set s.xs i hi y
  have h2:=h.room
  show s.nv+((s.xs.set i y).map Px.load).sum≤nr'
  omega
 ·show (s.xs.set i y).length≤nr'
  rw [List.length_set]
  exact Nat.le_trans h.nx hn
 ·rcases List.mem_or_eq_of_mem_set hx with hx|rfl
  ·have q:=h.mks x hx he
   exact ⟨Nat.le_trans q.1 hn,Nat.le_trans q.2.1 hn,q.2.2⟩
  ·exact hmk
 ·have hj':j<s.xs.length:=by
   have:j<(s.xs.set i y).length:=hj
   rwa [List.length_set] at this
  have he':((s.xs.set i y)[j]'hj).ended=false:=he
  show ((s.xs.set i y)[j]'hj).id=_
  rw [List.getElem_set] at he' ⊢
  split
  ·next e =>
   subst e
   rw [if_pos rfl] at he'
   rw [hid]
   exact h.ids i hi (by rw [←hen];exact he')
  ·next e =>
   rw [if_neg e] at he'
   exact h.ids j hj' he'
 ·rw [sv_set,openS_set]
  show s.os=_
  rw [h.os,set_self]
  have hi':i<s.sv.txs.length:=by show i<(s.xs.map Px.tx).length;rw [List.length_map];exact hi
  rw [openS_get _ _ hi']
  have:s.sv.txs[i]=(s.xs[i]).tx:=by
   have q:=map_tx hi
   rw [List.getElem?_eq_getElem hi'] at q
   injection q
  rw [this]
  show some (if (s.xs[i]).ended then none else some (s.xs[i]).snap)=some (if y.ended then none else some y.snap)
  rw [hsn,hen]
 ·rw [sv_set]
  exact okS_set h.ok i hok
theorem FitS.ends (h:FitS nr s) {i:Nat} (hi:i<s.xs.length) (he:(s.xs[i]).ended=false):FitS nr { s with xs:=s.xs.set i { s.xs[i] with ended:=true },os:=closeQ s.os (s.xs[i]).id }:=by
 refine ⟨?_,?_,fun x hx hx'=>?_,fun j hj hj'=>?_,?_,?_,h.v4⟩
 ·have h1:=sum_set s.xs i hi { s.xs[i] with ended:=true }
  have h2:=h.room
  have h3:({ s.xs[i] with ended:=true }:Px).load=0:=rfl
  show s.nv+((s.xs.set i { s.xs[i] with ended:=true }).map Px.load).sum≤nr
  omega
 ·show (s.xs.set i _).length≤nr
  rw [List.length_set]
  exact h.nx
 ·rcases List.mem_or_eq_of_mem_set hx with hx|rfl
  ·exact h.mks x hx hx'
  ·cases hx'
 ·have hj1:j<s.xs.length:=by
   have:j<(s.xs.set i _).length:=hj
   rwa [List.length_set] at this
  have he':((s.xs.set i { s.xs[i] with ended:=true })[j]'hj).ended=false:=hj'
  show ((s.xs.set i { s.xs[i] with ended:=true })[j]'hj).id=_
  rw [List.getElem_set] at he' ⊢
  split
  ·next e =>
   subst e
   rw [if_pos rfl] at he'
   cases he'
  ·next e =>
   rw [if_neg e] at he'
   exact h.ids j hj1 he'
 ·show closeQ s.os (s.xs[i]).id=openS ({ s with xs:=s.xs.set i { s.xs[i] with ended:=true } }:Ps).sv
  rw [sv_set,openS_set,h.ids i hi he,h.os]
  show closeQ _ _=(openS s.sv).set i none
  unfold closeQ
  rw [if_pos (by omega),show ((i:Int)+1-1).toNat=i by omega]
 ·show OkS ({ s with xs:=s.xs.set i { s.xs[i] with ended:=true } }:Ps).sv
  rw [sv_set]
  exact okS_set h.ok i (okX_end (h.okx hi))
end
section
variable {n0:Nat} {W:World} {s:Ps} {c:Nat→Nat}
theorem PrgB.xlt (x:PrgB n0 W s c) {i:Nat} (hi:i<s.xs.length):(s.xs[i]).g<W.heap.size:=(Array.getElem?_eq_some_iff.1 (x.txo i hi).1).1
theorem encPx_open (h:Nat) {x:Px} (he:x.ended=false):encPx h x=[.int .u64 x.snap,.int .i64 x.id,.pointer (some ⟨h,0,none⟩),.pointer (some ⟨x.gw,0,none⟩),x.m.ksl,x.m.rsl]:=by
 unfold encPx
 rw [he]
 rfl
theorem partX1 (n0 h:Nat) {x:Px} (he:x.ended=false):partX n0 h x 1=wrtP n0 x.gw x.L:=by
 unfold partX
 rw [if_neg (by omega),he,if_neg (by decide),if_pos rfl]
theorem partX2 (n0 h:Nat) {x:Px} (he:x.ended=false):partX n0 h x 2=mksP n0 x.m:=by
 unfold partX
 rw [if_neg (by omega),he,if_neg (by decide),if_neg (by omega)]
theorem PrgB.marked (x:PrgB n0 W s c) {i:Nat} (hi:i<s.xs.length) (he:(s.xs[i]).ended=false) {w1:World} (hb:Below W.heap.size W w1) {m':Mx} (hm:MOwn W.heap.size w1 m') (w3:World) (hw3:(w1.setCell ⟨(s.xs[i]).g,4,none⟩ m'.ksl).setCell ⟨(s.xs[i]).g,5,none⟩ m'.rsl=w3) :
  PrgB n0 w3 { s with xs:=s.xs.set i { s.xs[i] with m:=m' } } (lab W (BlkM15 m') c (9+3 * i))∧Fr (fun k=>k=(s.xs[i]).g) W w3:=by
 obtain ⟨o1,o2,o3⟩:=x.txo i hi
 have hlt:=x.xlt hi
 have hbase:=x.base
 rw [encPx_open _ he] at o1
 have f13:Fr (fun k=>k=(s.xs[i]).g) w1 w3:=by
  rw [←hw3]
  exact (fr_set15 w1 _ 4 _).then (fr_set15 _ _ 5 _) fun k hk=>Or.inl hk
 have f:Fr (fun k=>k=(s.xs[i]).g) W w3:=Fr.then (Fr.of_below hb) f13 fun k hk=>Or.inl hk
 have ho3:w3.heap[(s.xs[i]).g]? = some (.cells (encPx s.h { s.xs[i] with m:=m' }).toArray 163 (0,0)):=by
  rw [←hw3,encPx_open s.h (x:={ s.xs[i] with m:=m' }) he]
  exact heap_setCell_same _ _ 5 _ _ _ (heap_setCell_same _ _ 4 _ _ _ ((hb.block _ hlt).trans o1))
 have hm3:MOwn W.heap.size w3 m':=hm.fr f13 fun k hk=>by rw [hk];exact hlt
 have hR:RMk n0 w3 m':=⟨Kind.own_weak hm3.keys hbase,Kind.own_weak hm3.rows hbase,fun r hr=>⟨Kind.own_weak (hm3.each r hr).1 hbase,(hm3.each r hr).2⟩⟩
 have hRW:RMk W.heap.size w3 m':=⟨hm3.keys,hm3.rows,hm3.each⟩
 refine ⟨x.setX i _ f (fun k _ hk=>?_) (fun k hk=>lab_old hk) (fun k hk=>lab_out (Nat.le_trans f.size hk) fun q=>by have:=(hR.blk k q).2;omega) hi fun r hr=>?_,f⟩
 ·rw [hk,o3]
  omega
 ·match r,hr with
  | 0,_=>exact Or.inl ⟨fun k=>k=(s.xs[i]).g,⟨ho3,o2,fun k=>Iff.rfl⟩,fun k hk=>by rw [hk,lab_old hlt];exact o3⟩
  | 1,_ =>
   refine Or.inr ⟨?_,fun k hk e=>by rw [e,o3];omega⟩
   rw [partX1 n0 s.h he,partX1 n0 s.h (x:={ s.xs[i] with m:=m' }) he]
  | 2,_ =>
   refine Or.inl ⟨BlkM15 m',?_,fun k hk=>by rw [lab_new (hRW.blk k hk).1 hk];omega⟩
   rw [partX2 n0 s.h (x:={ s.xs[i] with m:=m' }) he]
   exact ⟨hR,fun k=>Iff.rfl⟩
theorem PrgB.wrote (x:PrgB n0 W s c) {i:Nat} (hi:i<s.xs.length) (he:(s.xs[i]).ended=false) {B:Nat→Prop} (hw:PrgW n0 W B (s.xs[i]).gw (s.xs[i]).L) (hB:∀k,B k→c k=8+3 * i) {L':List RowW} {w':World} (ht:STurn n0 W B (s.xs[i]).gw L' w') :
  ∃c',PrgB n0 w' { s with xs:=s.xs.set i { s.xs[i] with L:=L' } } c'∧Fr (fun k=>c k=8+3 * i) W w'∧∀k,k<W.heap.size→c' k=c k:=by
 obtain ⟨B',h1,f,h3⟩:=ht
 obtain ⟨o1,o2,o3⟩:=x.txo i hi
 have hlt:=x.xlt hi
 refine ⟨lab W B' c (8+3 * i),x.setX i _ f (fun k _ hk=>?_) (fun k hk=>lab_old hk) (fun k hk=>lab_out (Nat.le_trans f.size hk) fun q=>by have:=((good_wrt n0 _ _).blk h1 k q).2;omega) hi fun r hr=>?_,f.mono fun k hk=>hB k hk,fun k hk=>lab_old hk⟩
 ·rw [hB k hk]
  omega
 ·match r,hr with
  | 0,_=>exact Or.inr ⟨rfl,fun k _ hk=>by rw [hB k hk];omega⟩
  | 1,_ =>
   refine Or.inl ⟨B',?_,fun k hk=>?_⟩
   ·rw [partX1 n0 s.h (x:={ s.xs[i] with L:=L' }) he]
    exact h1
   ·rw [show 7+3 * i+1=8+3 * i by omega]
    exact lab_in ((h3 k hk).imp (fun q=>⟨((good_wrt n0 _ _).blk hw k q).2,hB k q⟩) id) hk
  | 2,_ =>
   refine Or.inr ⟨?_,fun k _ hk=>by rw [hB k hk];omega⟩
   rw [partX2 n0 s.h he,partX2 n0 s.h (x:={ s.xs[i] with L:=L' }) he]
theorem PrgB.ended {w3:World} (x:PrgB n0 W s c) {i:Nat} (hi:i<s.xs.length) (f:Fr (fun k=>k=(s.xs[i]).g) W w3) (ho3:w3.heap[(s.xs[i]).g]? = some (.cells (encPx s.h { s.xs[i] with ended:=true }).toArray 163 (0,0))) :
  PrgB n0 w3 { s with xs:=s.xs.set i { s.xs[i] with ended:=true } } c:=by
 obtain ⟨o1,o2,o3⟩:=x.txo i hi
 have hlt:=x.xlt hi
 refine x.setX i _ f (fun k _ hk=>?_) (fun k hk=>rfl) (fun k hk=>x.out k (Nat.le_trans f.size hk)) hi fun r hr=>?_
 ·rw [hk,o3]
  omega
 ·match r,hr with
  | 0,_=>exact Or.inl ⟨fun k=>k=(s.xs[i]).g,⟨ho3,o2,fun k=>Iff.rfl⟩,fun k hk=>by rw [hk];exact o3⟩
  | 1,_=>exact Or.inl (has_none _ _ _)
  | 2,_=>exact Or.inl (has_none _ _ _)
end
end
section
open Go.RowKit
set_option maxRecDepth 100000 in
theorem acas64 (b o:Nat) (x y:Int) (w:World) (hc:w.cell? ⟨b,o,none⟩=some (.int .u64 x)) (hz:w.frozen? ⟨b,o,none⟩=false) :
  Calls Tryz.prog 231 #[.pointer (some ⟨b,o,none⟩),.int .u64 x,.int .u64 y] w fun e w'=>e=.returned (.bool true)∧w'=w.setCell ⟨b,o,none⟩ (.int .u64 y):=by
 have hl:=run_call_cas_hit (P:=Tryz.prog) Tryz.func309 (by kernel_rfl) (by kernel_rfl) (by kernel_rfl) .u64 (by kernel_rfl) (y:=y) hc hz
 go_enter Tryz.func231,Tryz.ntmps231
 go_wp2
 go_ret
 exact ⟨rfl,rfl⟩
set_option maxRecDepth 100000 in
theorem aloadi (b o:Nat) (x:Int) (w:World) (hc:w.cell? ⟨b,o,none⟩=some (.int .i64 x)) :
  Calls Tryz.prog 180 #[.pointer (some ⟨b,o,none⟩)] w fun e w'=>e=.returned (.int .i64 x)∧w'=w:=by
 have hl:=run_call_load (P:=Tryz.prog) Tryz.func265 (by kernel_rfl) (by kernel_rfl) (by kernel_rfl) .i64 (by kernel_rfl) hc
 go_enter Tryz.func180,Tryz.ntmps180
 go_wp2
 go_ret
 exact ⟨rfl,rfl⟩
def CntAt (W:World) (g:Nat) (t:Int):Prop:=W.heap[g]? = some (.cells #[.int .u64 t] 209 (0,0))
def ClkAt (W:World) (g:Nat) (t:Int):Prop:=W.heap[g]? = some (.cells #[.int .i64 t] 214 (0,0))
theorem snew_any (t:Int) (W:World):Calls Tryz.prog 54 #[.int .u64 t] W fun e w'=>e=.returned (.pointer (some ⟨W.heap.size,0,none⟩))∧CntAt w' W.heap.size t∧w'.heap.size=W.heap.size+1∧Below W.heap.size W w':=by
 obtain ⟨V,hV⟩:∃V,W.alloc (.cells #[.int .u64 0] 209)=V:=⟨_,rfl⟩
 obtain ⟨M,hM⟩:∃M,W.heap.size=M:=⟨_,rfl⟩
 have h1:V.heap[M]? = some (.cells #[.int .u64 0] 209 (0,0)):=by rw [←hV,←hM];exact heap_alloc_new W _
 have hb:Below W.heap.size W V:=by rw [←hV];exact (Below.refl _ _).alloc (Nat.le_refl _) _
 have hs:V.heap.size=M+1:=by rw [←hV,←hM];simp
 have HST:=hid (astore64 M 0 0 t V (by rw [Lib.cell_of_heap h1];rfl) (Lib.frozen_of_heap h1 0))
 have HF:Hid (CntAt (V.setCell ⟨M,0,none⟩ (.int .u64 t)) M t∧(V.setCell ⟨M,0,none⟩ (.int .u64 t)).heap.size=M+1∧Below W.heap.size W (V.setCell ⟨M,0,none⟩ (.int .u64 t))) :=
  ⟨heap_setCell_same V M 0 _ _ _ h1,by simp [hs],hb.setCell (by show W.heap.size≤M;omega) _⟩
 clear hb h1 hs
 go_enter Tryz.func54,Tryz.ntmps54
 go_wp2_with fail
 refine HST.out.mono ?_
 rintro e w1 ⟨rfl,rfl⟩
 go_wp2_with fail
 go_ret
 rw [←hM]
 rw [←hM] at HF
 exact ⟨rfl,HF.out⟩
theorem slast_any {W:World} {g:Nat} {t:Int} (h:CntAt W g t):Calls Tryz.prog 74 #[.pointer (some ⟨g,0,none⟩)] W fun e w'=>e=.returned (.int .u64 t)∧w'=W:=by
 have HL:=hid (aload64 g 0 t W (by rw [Lib.cell_of_heap h];rfl))
 clear h
 go_enter Tryz.func74,Tryz.ntmps74
 go_wp2_with fail
 refine HL.out.mono ?_
 rintro e w1 ⟨rfl,rfl⟩
 go_wp2_with fail
 go_ret
 exact ⟨rfl,rfl⟩
theorem cnew_any (W:World):Calls Tryz.prog 55 #[] W fun e w'=>e=.returned (.pointer (some ⟨W.heap.size,0,none⟩))∧ClkAt w' W.heap.size 0∧w'.heap.size=W.heap.size+1∧Below W.heap.size W w':=by
 have HF:Hid (ClkAt (W.alloc (.cells #[.int .i64 0] 214)) W.heap.size 0∧(W.alloc (.cells #[.int .i64 0] 214)).heap.size=W.heap.size+1∧Below W.heap.size W (W.alloc (.cells #[.int .i64 0] 214))) :=
  ⟨heap_alloc_new W _,by simp,(Below.refl _ _).alloc (Nat.le_refl _) _⟩
 go_enter Tryz.func55,Tryz.ntmps55
 go_wp2_with fail
 go_ret
 exact ⟨rfl,HF.out⟩
theorem cnow_any {W:World} {g:Nat} {t:Int} (h:ClkAt W g t):Calls Tryz.prog 150 #[.pointer (some ⟨g,0,none⟩)] W fun e w'=>e=.returned (.int .i64 t)∧w'=W:=by
 have HL:=hid (aloadi g 0 t W (by rw [Lib.cell_of_heap h];rfl))
 clear h
 go_enter Tryz.func150,Tryz.ntmps150
 go_wp2_with fail
 refine HL.out.mono ?_
 rintro e w1 ⟨rfl,rfl⟩
 go_wp2_with fail
 go_ret
 exact ⟨rfl,rfl⟩
def NextPost (W:World) (g:Nat) (t:Int) (e:Ending) (w':World):Prop:=(t=topS∧e=.returned (.tuple #[.int .u64 0,.int .i64 10])∧w'=W)∨(t≠topS∧e=.returned (.tuple #[.int .u64 (t+1),.int .i64 0])∧w'=W.setCell ⟨g,0,none⟩ (.int .u64 (t+1)))
set_option maxHeartbeats 1000000 in
theorem snext_any {W:World} {g:Nat} {t:Int} (h:CntAt W g t) (h0:0≤t) (h1:t≤topS):Calls Tryz.prog 149 #[.pointer (some ⟨g,0,none⟩)] W fun e w'=>NextPost W g t e w':=by
 unfold topS at *
 have HL:=hid (aload64 g 0 t W (by rw [Lib.cell_of_heap h];rfl))
 have HC:=hid (acas64 g 0 t (t+1) W (by rw [Lib.cell_of_heap h];rfl) (Lib.frozen_of_heap h 0))
 clear h
 go_enter Tryz.func149,Tryz.ntmps149
 go_wp2_with fail
 go_loopg [] 0 (fun gg ws=>ws=W)
 case atStart=>rfl
 case round =>
  subst hrel
  go_wp2_with fail
  refine HL.out.mono ?_
  rintro e w1 ⟨rfl,rfl⟩
  by_cases ht:t=18446744073709551615
  ·subst ht
   go_wp2_with fail
   go_ret2
   exact Or.inl (And.intro rfl (And.intro rfl rfl))
  ·have htb:(t==18446744073709551615)=false:=by simpa using ht
   go_wp2_with fail
   refine HC.out.mono ?_
   rintro e w2 ⟨rfl,rfl⟩
   go_wp2_with fail
   go_ret2
   exact Or.inr (And.intro ht (And.intro rfl rfl))
end
section
open Go.RowKit
structure XAt (W:World) (g:Nat) (snap id:Int) (h gw:Nat) (ks rs:Value) (hd hs hc hq ht:Nat) (vers:Int):Prop where
 x:W.heap[g]? = some (.cells #[.int .u64 snap,.int .i64 id,.pointer (some ⟨h,0,none⟩),.pointer (some ⟨gw,0,none⟩),ks,rs] 163 (0,0))
 s:W.heap[h]? = some (.cells #[.pointer (some ⟨hd,0,none⟩),.pointer (some ⟨hs,0,none⟩),.pointer (some ⟨hc,0,none⟩),.pointer (some ⟨hq,0,none⟩),.pointer (some ⟨ht,0,none⟩),.int .i64 vers] 146 (0,0))
section
variable {W:World} {g:Nat} {snap id:Int} {h gw:Nat} {ks rs:Value} {hd hs hc hq ht:Nat} {vers:Int}
theorem XAt.fr {W':World} {P:Nat→Prop} (x:XAt W g snap id h gw ks rs hd hs hc hq ht vers) (f:Fr P W W') (h1:¬ P g) (h2:¬ P h):XAt W' g snap id h gw ks rs hd hs hc hq ht vers :=
 ⟨(f.block g (Array.getElem?_eq_some_iff.1 x.x).1 h1).trans x.x,(f.block h (Array.getElem?_eq_some_iff.1 x.s).1 h2).trans x.s⟩
theorem XAt.on {W':World} (x:XAt W g snap id h gw ks rs hd hs hc hq ht vers) (hb:Below W.heap.size W W'):XAt W' g snap id h gw ks rs hd hs hc hq ht vers :=
 x.fr (P:=fun _=>False) (Fr.of_below hb) (fun k=>k) (fun k=>k)
theorem XAt.xc (x:XAt W g snap id h gw ks rs hd hs hc hq ht vers):W.cell? ⟨g,0,none⟩=some (.int .u64 snap)∧W.cell? ⟨g,1,none⟩=some (.int .i64 id)∧W.cell? ⟨g,2,none⟩=some (.pointer (some ⟨h,0,none⟩))∧W.cell? ⟨g,3,none⟩=some (.pointer (some ⟨gw,0,none⟩))∧W.cell? ⟨g,4,none⟩=some ks∧W.cell? ⟨g,5,none⟩=some rs:=by
 refine ⟨?_,?_,?_,?_,?_,?_⟩<;>rw [Lib.cell_of_heap x.x]<;>rfl
theorem XAt.sc (x:XAt W g snap id h gw ks rs hd hs hc hq ht vers):W.cell? ⟨h,0,none⟩=some (.pointer (some ⟨hd,0,none⟩))∧W.cell? ⟨h,1,none⟩=some (.pointer (some ⟨hs,0,none⟩))∧W.cell? ⟨h,2,none⟩=some (.pointer (some ⟨hc,0,none⟩))∧W.cell? ⟨h,3,none⟩=some (.pointer (some ⟨hq,0,none⟩))∧W.cell? ⟨h,4,none⟩=some (.pointer (some ⟨ht,0,none⟩))∧W.cell? ⟨h,5,none⟩=some (.int .i64 vers):=by
 refine ⟨?_,?_,?_,?_,?_,?_⟩<;>rw [Lib.cell_of_heap x.s]<;>rfl
end
theorem xended_no {W:World} {g h:Nat} (hc:W.cell? ⟨g,2,none⟩=some (.pointer (some ⟨h,0,none⟩))):Calls Tryz.prog 21 #[.pointer (some ⟨g,0,none⟩)] W fun e w'=>e=.returned (.bool false)∧w'=W:=by
 go_enter Tryz.func21,Tryz.ntmps21
 go_wp2_with fail
 go_ret
 exact ⟨rfl,rfl⟩
theorem xended_yes {W:World} {g:Nat} (hc:W.cell? ⟨g,2,none⟩=some (.pointer none)):Calls Tryz.prog 21 #[.pointer (some ⟨g,0,none⟩)] W fun e w'=>e=.returned (.bool true)∧w'=W:=by
 go_enter Tryz.func21,Tryz.ntmps21
 go_wp2_with fail
 go_ret
 exact ⟨rfl,rfl⟩
def EndIs (p:Value) (b:Bool) (W:World):Prop:=∀W',Below W.heap.size W W'→Calls Tryz.prog 21 #[p] W' fun e w'=>e=.returned (.bool b)∧w'=W'
theorem endis_no {W:World} {g h:Nat} (hc:W.cell? ⟨g,2,none⟩=some (.pointer (some ⟨h,0,none⟩))):EndIs (.pointer (some ⟨g,0,none⟩)) false W:=fun _ hb=>xended_no ((hb.cell (cell_block hc)).trans hc)
theorem endis_yes {W:World} {g:Nat} (hc:W.cell? ⟨g,2,none⟩=some (.pointer none)):EndIs (.pointer (some ⟨g,0,none⟩)) true W:=fun _ hb=>xended_yes ((hb.cell (cell_block hc)).trans hc)
def refS (b:Bool) (k:Ky):Int:=if b then 12 else if keyB k.1 k.2=false then 2 else 0
theorem xrefused_any {W:World} {p:Option Addr} {b:Bool} (he:EndIs (.pointer p) b W) (k:Ky) (hk:k.1.size≤maxLen∧k.2.size≤maxLen):Calls Tryz.prog 92 #[.pointer p,.agg #[.string k.1,.string k.2]] W fun e w'=>e=.returned (.int .i64 (refS b k))∧Below W.heap.size W w':=by
 obtain ⟨V,hV⟩:∃V,W.alloc (.cells #[.string k.1,.string k.2] 39)=V:=⟨_,rfl⟩
 obtain ⟨M,hM⟩:∃M,W.heap.size=M:=⟨_,rfl⟩
 have h1:V.heap[M]? = some (.cells #[.string k.1,.string k.2] 39 (0,0)):=by rw [←hV,←hM];exact heap_alloc_new W _
 have hb:Below W.heap.size W V:=by rw [←hV];exact (Below.refl _ _).alloc (Nat.le_refl _) _
 have c0:V.cell? ⟨M,0,none⟩=some (.string k.1):=cz h1
 have c1:V.cell? ⟨M,1,none⟩=some (.string k.2):=cz h1
 have HE:=hid (he V hb)
 have HK:=hid (key_any k.1 k.2 V hk.1 hk.2)
 have HB:=hid hb
 obtain ⟨r,hr⟩:∃r,refS b k=r:=⟨_,rfl⟩
 rw [hr]
 have HR:Hid (refS b k=r):=hr
 obtain ⟨ka,kb⟩:=k
 simp only at *
 clear he hb h1 hr hk
 cases b with
 | true =>
  have HR2:Hid (r=12):=HR.out.symm
  go_enter Tryz.func92,Tryz.ntmps92
  go_wp2_with fail
  refine HE.out.mono ?_
  rintro e w1 ⟨rfl,rfl⟩
  go_wp2_with fail
  go_ret
  rw [HR2.out]
  exact ⟨rfl,HB.out⟩
 | false =>
  go_enter Tryz.func92,Tryz.ntmps92
  go_wp2_with fail
  refine HE.out.mono ?_
  rintro e w1 ⟨rfl,rfl⟩
  go_wp2_with fail
  refine HK.out.mono ?_
  rintro e w2 ⟨rfl,hb2⟩
  have HB2:Hid (Below W.heap.size W w2):=bel_then HB.out HB.out.size hb2
  clear hb2 HK c0 c1
  cases hkb:keyB ka kb with
  | false =>
   have HR2:Hid (r=2):=by show _=_;rw [←HR.out];unfold refS;simp [hkb]
   clear hkb
   go_wp2_with fail
   go_ret
   rw [HR2.out]
   exact ⟨rfl,HB2.out⟩
  | true =>
   have HR2:Hid (r=0):=by show _=_;rw [←HR.out];unfold refS;simp [hkb]
   clear hkb
   go_wp2_with fail
   go_ret
   rw [HR2.out]
   exact ⟨rfl,HB2.out⟩
def unfS (b:Bool) (p:List Tm):Int:=if b then 12 else mayM p
theorem xunfit_any {W:World} {q:Option Addr} {b:Bool} (he:EndIs (.pointer q) b W) (v:Value) (p:List Tm) (hv:KM.Is W v p) (hp:FitM p):Calls Tryz.prog 95 #[.pointer q,v] W fun e w'=>e=.returned (.int .i64 (unfS b p))∧Below W.heap.size W w':=by
 have HE:=hid (he W (Below.refl _ _))
 have HM:=hid (pmay_any v p W hv hp)
 obtain ⟨a,l,cc,rfl⟩:∃a l cc,v=.slice a l cc:=by
  obtain ⟨a,cc,rfl,_⟩:=hv
  exact ⟨a,_,cc,rfl⟩
 clear hv hp he
 cases b with
 | true =>
  go_enter Tryz.func95,Tryz.ntmps95
  go_wp2_with fail
  refine HE.out.mono ?_
  rintro e w1 ⟨rfl,rfl⟩
  go_wp2_with fail
  go_ret
  exact ⟨rfl,Below.refl _ _⟩
 | false =>
  go_enter Tryz.func95,Tryz.ntmps95
  go_wp2_with fail
  refine HE.out.mono ?_
  rintro e w1 ⟨rfl,rfl⟩
  go_wp2_with fail
  refine HM.out.mono ?_
  rintro e w1 ⟨rfl,hb⟩
  have HB:=hid hb
  clear hb
  go_wp2_with fail
  go_ret
  exact ⟨rfl,HB.out⟩
def partsV (hd hs hc hq ht:Nat):Value:=.agg #[.pointer (some ⟨hd,0,none⟩),.pointer (some ⟨hs,0,none⟩),.pointer (some ⟨hc,0,none⟩),.pointer (some ⟨hq,0,none⟩),.pointer (some ⟨ht,0,none⟩)]
def StAt (W:World) (h hd hs hc hq ht:Nat) (vers:Int):Prop:=W.heap[h]? = some (.cells #[.pointer (some ⟨hd,0,none⟩),.pointer (some ⟨hs,0,none⟩),.pointer (some ⟨hc,0,none⟩),.pointer (some ⟨hq,0,none⟩),.pointer (some ⟨ht,0,none⟩),.int .i64 vers] 146 (0,0))
theorem StAt.on {W W':World} {h hd hs hc hq ht:Nat} {vers:Int} (x:StAt W h hd hs hc hq ht vers) (hb:Below W.heap.size W W'):StAt W' h hd hs hc hq ht vers:=(hb.block h (Array.getElem?_eq_some_iff.1 x).1).trans x
set_option maxHeartbeats 1000000 in
theorem shas_any {W:World} {h hd hs hc hq ht:Nat} {vers:Int} (x:StAt W h hd hs hc hq ht vers):Calls Tryz.prog 72 #[.pointer (some ⟨h,0,none⟩)] W fun e w'=>e=.returned (partsV hd hs hc hq ht)∧Below W.heap.size W w':=by
 obtain ⟨V,hV⟩:∃V,W.alloc (.cells #[.pointer none,.pointer none,.pointer none,.pointer none,.pointer none] 144)=V:=⟨_,rfl⟩
 obtain ⟨M,hM⟩:∃M,W.heap.size=M:=⟨_,rfl⟩
 have h1:V.heap[M]? = some (.cells #[.pointer none,.pointer none,.pointer none,.pointer none,.pointer none] 144 (0,0)):=by rw [←hV,←hM];exact heap_alloc_new W _
 have hb:Below W.heap.size W V:=by rw [←hV];exact (Below.refl _ _).alloc (Nat.le_refl _) _
 have xv:=x.on hb
 have a0:V.cell? ⟨h,0,none⟩=some (.pointer (some ⟨hd,0,none⟩)):=cz xv
 have a1:V.cell? ⟨h,1,none⟩=some (.pointer (some ⟨hs,0,none⟩)):=cz xv
 have a2:V.cell? ⟨h,2,none⟩=some (.pointer (some ⟨hc,0,none⟩)):=cz xv
 have a3:V.cell? ⟨h,3,none⟩=some (.pointer (some ⟨hq,0,none⟩)):=cz xv
 have a4:V.cell? ⟨h,4,none⟩=some (.pointer (some ⟨ht,0,none⟩)):=cz xv
 obtain ⟨WZ,hWZ⟩:∃WZ,((((V.setCell ⟨M,0,none⟩ (.pointer (some ⟨hd,0,none⟩))).setCell ⟨M,1,none⟩ (.pointer (some ⟨hs,0,none⟩))).setCell ⟨M,2,none⟩ (.pointer (some ⟨hc,0,none⟩))).setCell ⟨M,3,none⟩ (.pointer (some ⟨hq,0,none⟩))).setCell ⟨M,4,none⟩ (.pointer (some ⟨ht,0,none⟩))=WZ:=⟨_,rfl⟩
 have hbz:WZ.heap[M]? = some (.cells #[.pointer (some ⟨hd,0,none⟩),.pointer (some ⟨hs,0,none⟩),.pointer (some ⟨hc,0,none⟩),.pointer (some ⟨hq,0,none⟩),.pointer (some ⟨ht,0,none⟩)] 144 (0,0)):=by
  rw [←hWZ]
  exact heap_setCell_same _ M 4 _ _ _ (heap_setCell_same _ M 3 _ _ _ (heap_setCell_same _ M 2 _ _ _ (heap_setCell_same _ M 1 _ _ _ (heap_setCell_same _ M 0 _ _ _ h1))))
 have HB:Hid (Below W.heap.size W WZ):=by
  show Below _ _ _
  rw [←hWZ,hM]
  rw [hM] at hb
  exact ((((hb.setCell (by simp) _).setCell (by simp) _).setCell (by simp) _).setCell (by simp) _).setCell (by simp) _
 have y0:V.cell? ⟨M,0,none⟩=some (.pointer none):=cz h1
 have y1:V.cell? ⟨M,1,none⟩=some (.pointer none):=cz h1
 have y2:V.cell? ⟨M,2,none⟩=some (.pointer none):=cz h1
 have y3:V.cell? ⟨M,3,none⟩=some (.pointer none):=cz h1
 have y4:V.cell? ⟨M,4,none⟩=some (.pointer none):=cz h1
 have z0:=Lib.frozen_of_heap h1 0
 have z1:=Lib.frozen_of_heap h1 1
 have z2:=Lib.frozen_of_heap h1 2
 have z3:=Lib.frozen_of_heap h1 3
 have z4:=Lib.frozen_of_heap h1 4
 have g0:WZ.cell? ⟨M,0,none⟩=some (.pointer (some ⟨hd,0,none⟩)):=cz hbz
 have g1:WZ.cell? ⟨M,1,none⟩=some (.pointer (some ⟨hs,0,none⟩)):=cz hbz
 have g2:WZ.cell? ⟨M,2,none⟩=some (.pointer (some ⟨hc,0,none⟩)):=cz hbz
 have g3:WZ.cell? ⟨M,3,none⟩=some (.pointer (some ⟨hq,0,none⟩)):=cz hbz
 have g4:WZ.cell? ⟨M,4,none⟩=some (.pointer (some ⟨ht,0,none⟩)):=cz hbz
 clear x xv h1 hb hbz
 go_enter Tryz.func72,Tryz.ntmps72
 go_wp2_with fail
 try rw [hWZ]
 exact bodyPost_ret (v:=partsV hd hs hc hq ht) (by simp [results,Tryz.results72,go_sem,g0,g1,g2,g3,g4,partsV]) rfl ⟨rfl,HB.out⟩
end
section
open Go.RowKit
theorem fr_set5 (w:World) (G j:Nat) (u:Value):Fr (fun b=>b=G) w (w.setCell ⟨G,j,none⟩ u):=⟨rfl,rfl,rfl,by simp,fun k _ hn=>heap_setCell_other _ _ k _ hn⟩
theorem CntAt.on {W W':World} {g:Nat} {t:Int} (h:CntAt W g t) (hb:Below W.heap.size W W'):CntAt W' g t:=(hb.block g (Array.getElem?_eq_some_iff.1 h).1).trans h
theorem field_parts (a b c d e:Option Addr) (w:World):(Instr.field 144 (.agg #[.pointer a,.pointer b,.pointer c,.pointer d,.pointer e]) 0).run Tryz.prog w=.ok (.pointer a) w∧(Instr.field 144 (.agg #[.pointer a,.pointer b,.pointer c,.pointer d,.pointer e]) 1).run Tryz.prog w=.ok (.pointer b) w∧(Instr.field 144 (.agg #[.pointer a,.pointer b,.pointer c,.pointer d,.pointer e]) 2).run Tryz.prog w=.ok (.pointer c) w∧(Instr.field 144 (.agg #[.pointer a,.pointer b,.pointer c,.pointer d,.pointer e]) 3).run Tryz.prog w=.ok (.pointer d) w∧(Instr.field 144 (.agg #[.pointer a,.pointer b,.pointer c,.pointer d,.pointer e]) 4).run Tryz.prog w=.ok (.pointer e) w:=⟨by kernel_rfl,by kernel_rfl,by kernel_rfl,by kernel_rfl,by kernel_rfl⟩
set_option maxHeartbeats 2000000 in
set_option maxRecDepth 100000 in
theorem sleast_any {n0:Nat} {W:World} {hd hs hc hq ht:Nat} {B:Nat→Prop} {os:Sn} {fl last:Int} (hct:CntAt W hs last) (hsn:PrgQ n0 W B hq os fl) (hl:os.length<40000000000000) :
  Calls Tryz.prog 114 #[partsV hd hs hc hq ht] W fun e w'=>e=.returned (.int .u64 (leastQ os last))∧Below W.heap.size W w':=by
 obtain ⟨V,hV⟩:∃V,W.alloc (.cells #[.pointer (some ⟨hd,0,none⟩),.pointer (some ⟨hs,0,none⟩),.pointer (some ⟨hc,0,none⟩),.pointer (some ⟨hq,0,none⟩),.pointer (some ⟨ht,0,none⟩)] 144)=V:=⟨_,rfl⟩
 obtain ⟨M,hM⟩:∃M,W.heap.size=M:=⟨_,rfl⟩
 have h1:V.heap[M]? = some (.cells #[.pointer (some ⟨hd,0,none⟩),.pointer (some ⟨hs,0,none⟩),.pointer (some ⟨hc,0,none⟩),.pointer (some ⟨hq,0,none⟩),.pointer (some ⟨ht,0,none⟩)] 144 (0,0)):=by rw [←hV,←hM];exact heap_alloc_new W _
 have hb:Below W.heap.size W V:=by rw [←hV];exact (Below.refl _ _).alloc (Nat.le_refl _) _
 have HB:=hid hb
 have c1:V.cell? ⟨M,1,none⟩=some (.pointer (some ⟨hs,0,none⟩)):=cz h1
 have c3:V.cell? ⟨M,3,none⟩=some (.pointer (some ⟨hq,0,none⟩)):=cz h1
 have HL:=hid fun n=>slast_any ((hct.on hb).on (bel_drewN (Below.refl V.heap.size V) n))
 have HE:=hid fun n=>pleastQ_any n0 hq os fl last B (V.drewN n) ((hsn.on hb).on (bel_drewN (Below.refl V.heap.size V) n)) hl
 clear h1 hb hct hsn
 unfold partsV
 go_enter Tryz.func114,Tryz.ntmps114
 go_upto_region 1 with fail
 try rw [hV]
 try rw [hM]
 refine wp_region_held_drew (S:=fun w'=>w'.cell? ⟨M,1,none⟩=some (.pointer (some ⟨hs,0,none⟩))∧w'.cell? ⟨M,3,none⟩=some (.pointer (some ⟨hq,0,none⟩))) (by kernel_rfl) ⟨c1,c3⟩ (fun hHeld=>?_)
 refine tkv 0 (.pointer (some ⟨M,3,none⟩)) hHeld ?_
 simp only [Act.put,sz]
 refine tkv 1 (.pointer (some ⟨hq,0,none⟩)) hHeld ?_
 simp only [Act.put,sz]
 refine tkv 2 (.pointer (some ⟨M,1,none⟩)) hHeld ?_
 simp only [Act.put,sz]
 refine tkv 3 (.pointer (some ⟨hs,0,none⟩)) hHeld ?_
 simp only [Act.put,sz]
 clear hHeld
 refine wpAnyH_ready (rs:=[4]) (by kernel_rfl) (by simp) ?_
 refine AllReadyH.cons (at_drop0 rfl) (fun K hK=>?_) AllReadyH.nil
 rw [if_pos (by rfl)]
 go_simp
 refine (HL.out 1).mono ?_
 rintro e4 w4 ⟨rfl,rfl⟩
 go_wp2_with fail
 refine hK.out _ _ (⟨c1,c3⟩) (fun hHeld=>?_)
 clear hK K
 try simp only [Act.put,sz]
 clear hHeld
 refine wpAnyH_ready (rs:=[5]) (by kernel_rfl) (by simp) ?_
 refine AllReadyH.cons (at_drop0 rfl) (fun K hK=>?_) AllReadyH.nil
 rw [if_pos (by rfl)]
 go_simp
 refine (HE.out 1).mono ?_
 rintro e5 w5 ⟨rfl,_,hb5⟩
 have HB5:Hid (Below W.heap.size W w5):=bel_then HB.out HB.out.size (bel_then (bel_drewN (Below.refl V.heap.size V) 1) (by simp) hb5)
 have hS5:w5.cell? ⟨M,1,none⟩=some (.pointer (some ⟨hs,0,none⟩))∧w5.cell? ⟨M,3,none⟩=some (.pointer (some ⟨hq,0,none⟩)):=⟨(hb5.cell (cell_block (w:=V) c1)).trans c1,(hb5.cell (cell_block (w:=V) c3)).trans c3⟩
 clear hb5
 go_wp2_with fail
 refine hK.out _ _ hS5 (fun hHeld=>?_)
 clear hK K
 try simp only [Act.put,sz]
 refine tkv 6 (.int .u64 (leastQ os last)) hHeld ?_
 simp only [Act.put,sz]
 refine wpAnyH_done (by kernel_rfl) ?_ _
 go_wp2_with fail
 go_ret
 exact ⟨rfl,HB5.out⟩
section
variable {W:World} {h hd hs hc hq ht:Nat} {vers:Int}
set_option maxRecDepth 100000 in
theorem slastS_any {last:Int} (x:StAt W h hd hs hc hq ht vers) (hct:CntAt W hs last):Calls Tryz.prog 30 #[.pointer (some ⟨h,0,none⟩)] W fun e w'=>e=.returned (.int .u64 last)∧Below W.heap.size W w':=by
 have HH:=hid (shas_any x)
 have HL:Hid (∀w',Below W.heap.size W w'→Calls Tryz.prog 74 #[.pointer (some ⟨hs,0,none⟩)] w' fun e w2=>e=.returned (.int .u64 last)∧w2=w'):=fun w' hb=>slast_any (hct.on hb)
 unfold partsV at HH
 have hfd:=field_parts (some ⟨hd,0,none⟩) (some ⟨hs,0,none⟩) (some ⟨hc,0,none⟩) (some ⟨hq,0,none⟩) (some ⟨ht,0,none⟩)
 clear x hct
 go_enter Tryz.func30,Tryz.ntmps30
 go_wp2_with fail
 refine HH.out.mono ?_
 rintro e w1 ⟨rfl,hb⟩
 have HB:=hid hb
 have HL2:=hid (HL.out w1 hb)
 clear hb HL
 go_wp2_with fail
 refine HL2.out.mono ?_
 rintro e w2 ⟨rfl,rfl⟩
 go_wp2_with fail
 go_ret
 exact ⟨rfl,HB.out⟩
set_option maxRecDepth 100000 in
theorem sfloorS_any {n0:Nat} {B:Nat→Prop} {os:Sn} {fl:Int} (x:StAt W h hd hs hc hq ht vers) (hsn:PrgQ n0 W B hq os fl):Calls Tryz.prog 20 #[.pointer (some ⟨h,0,none⟩)] W fun e w'=>e=.returned (.int .u64 fl)∧Below W.heap.size W w':=by
 have HH:=hid (shas_any x)
 have HL:Hid (∀w',Below W.heap.size W w'→Calls Tryz.prog 73 #[.pointer (some ⟨hq,0,none⟩)] w' fun e w2=>e=.returned (.int .u64 fl)∧w2=w'):=fun w' hb=>pfloorQ_any n0 hq os fl B w' (hsn.on hb)
 unfold partsV at HH
 have hfd:=field_parts (some ⟨hd,0,none⟩) (some ⟨hs,0,none⟩) (some ⟨hc,0,none⟩) (some ⟨hq,0,none⟩) (some ⟨ht,0,none⟩)
 clear x hsn
 go_enter Tryz.func20,Tryz.ntmps20
 go_wp2_with fail
 refine HH.out.mono ?_
 rintro e w1 ⟨rfl,hb⟩
 have HB:=hid hb
 have HL2:=hid (HL.out w1 hb)
 clear hb HL
 go_wp2_with fail
 refine HL2.out.mono ?_
 rintro e w2 ⟨rfl,rfl⟩
 go_wp2_with fail
 go_ret
 exact ⟨rfl,HB.out⟩
set_option maxRecDepth 100000 in
theorem sopenS_any {n0:Nat} {B:Nat→Prop} {os:Sn} {fl:Int} (x:StAt W h hd hs hc hq ht vers) (hsn:PrgQ n0 W B hq os fl):Calls Tryz.prog 43 #[.pointer (some ⟨h,0,none⟩)] W fun e w'=>e=.returned (.int .i64 (countQ os:Nat))∧Below W.heap.size W w':=by
 have HH:=hid (shas_any x)
 have HL:Hid (∀w',Below W.heap.size W w'→Calls Tryz.prog 111 #[.pointer (some ⟨hq,0,none⟩)] w' fun e w2=>e=.returned (.int .i64 (countQ os:Nat))∧w2=w'):=fun w' hb=>pcountQ_any n0 hq os fl B w' (hsn.on hb)
 unfold partsV at HH
 have hfd:=field_parts (some ⟨hd,0,none⟩) (some ⟨hs,0,none⟩) (some ⟨hc,0,none⟩) (some ⟨hq,0,none⟩) (some ⟨ht,0,none⟩)
 clear x hsn
 go_enter Tryz.func43,Tryz.ntmps43
 go_wp2_with fail
 refine HH.out.mono ?_
 rintro e w1 ⟨rfl,hb⟩
 have HB:=hid hb
 have HL2:=hid (HL.out w1 hb)
 clear hb HL
 go_wp2_with fail
 refine HL2.out.mono ?_
 rintro e w2 ⟨rfl,rfl⟩
 go_wp2_with fail
 go_ret
 exact ⟨rfl,HB.out⟩
end
end
section
open Go.RowKit Go.Maps
theorem codeP_no (k:Ky) (v:List Fld) (h:keyB k.1 k.2=false) (L:List RowW):codePW k v=2∧putW L k v=L:=by
 have h1:codePW k v=2:=by unfold codePW;rw [if_pos h]
 exact ⟨h1,by unfold putW;rw [h1];rfl⟩
theorem codeP_bad (k:Ky) (v:List Fld) (h:keyB k.1 k.2=true) (hv:mayB v=false) (L:List RowW):codePW k v=3∧putW L k v=L:=by
 have h1:codePW k v=3:=by unfold codePW;rw [if_neg (by rw [h];simp),if_pos hv]
 exact ⟨h1,by unfold putW;rw [h1];rfl⟩
theorem codeP_ok (k:Ky) (v:List Fld) (h:keyB k.1 k.2=true) (hv:mayB v=true) (L:List RowW):codePW k v=0∧putW L k v=layW L k (some v):=by
 have h1:codePW k v=0:=by unfold codePW;rw [if_neg (by rw [h];simp),if_neg (by rw [hv];simp)]
 exact ⟨h1,by unfold putW;rw [h1];rfl⟩
theorem we_of {N:Nat} {w:World} {u:Value} {o:List Fx} (h:OwnJ N w u o) (l:Bool):∃e:We,e.live=l∧e.sl=u:=by
 rcases h.1.1.2 with ⟨h1,h2⟩|⟨g,cap,_,h1,_⟩
 ·exact ⟨⟨l,none,0,0⟩,rfl,h1.symm⟩
 ·exact ⟨⟨l,some g,o.length,cap⟩,rfl,h1.symm⟩
set_option maxHeartbeats 4000000 in
set_option maxRecDepth 100000 in
theorem wput_any {n0:Nat} {W:World} {B:Nat→Prop} {g:Nat} {L:List RowW} (h:PrgW n0 W B g L) (hn:n0≤W.heap.size) (hl:L.length<1300000000000) (k:Ky) (hk:FitKy k) (v:Value) (o:List Fx) (val:List Fld) (hv:IsXs W v o) (hf:FitX o) (hval:o.map Fx.fld=val) :
  Calls Tryz.prog 86 #[.pointer (some ⟨g,0,none⟩),.agg #[.string k.1,.string k.2],v] W fun e w'=>e=.returned (.int .i64 (codePW k val))∧STurn n0 W B g (putW L k val) w':=by
 obtain ⟨m,F,O,h⟩:=h
 obtain ⟨ka,kb⟩:=k
 obtain ⟨N,hN⟩:∃N,W.heap.size=N:=⟨_,rfl⟩
 obtain ⟨V,hV⟩:∃V,W.alloc (.cells #[.string ka,.string kb] 39)=V:=⟨_,rfl⟩
 have hbV:Below W.heap.size W V:=by rw [←hV];exact (Below.refl _ _).alloc (Nat.le_refl _) _
 have hbox:V.heap[N]? = some (.cells #[.string ka,.string kb] 39 (0,0)):=by rw [←hV,←hN];exact heap_alloc_new W _
 have hsV:V.heap.size=N+1:=by rw [←hV,←hN];simp
 have hgl:g<W.heap.size:=(Array.getElem?_eq_some_iff.1 h.obj).1
 have KS:Hid (∀w':World,Below V.heap.size V w'→w'.cell? ⟨g,0,none⟩=some (.map (some m))∧w'.cell? ⟨N,0,none⟩=some (.string ka)∧w'.cell? ⟨N,1,none⟩=some (.string kb)):=fun w' hb=>by
  have h3:=(hb.block N (by omega)).trans hbox
  exact ⟨(h.on (bel_then hbV hbV.size hb)).cell,by rw [Lib.cell_of_heap h3];rfl,by rw [Lib.cell_of_heap h3];rfl⟩
 obtain ⟨q0,q1,q2⟩:=KS.out V (Below.refl _ _)
 have HK:=hid (key_any ka kb V hk.1 hk.2)
 have HS:=hid h
 have HV:=hid hv
 have HF:=hid hf
 have HVAL:=hid hval
 have HBV:=hid hbV
 have HN0:=hid hn
 have HL:=hid hl
 have HFK:=hid hk
 obtain ⟨p0,c0,hvs⟩:∃p c,v=.slice p o.length c:=by obtain ⟨p,c,h1,_⟩:=hv;exact ⟨p,c,h1⟩
 subst hvs
 clear h hv hf hval hbV hbox hn hl hk
 obtain ⟨bk,hbk⟩:∃b,keyB ka kb=b:=⟨_,rfl⟩
 have HBK:=hid hbk
 rw [hbk] at HK
 clear hbk
 go_enter Tryz.func86,Tryz.ntmps86
 go_wp2_with fail
 try rw [hN]
 try rw [hV]
 refine HK.out.mono ?_
 rintro e w1 ⟨rfl,hb1⟩
 obtain ⟨r0,r1,r2⟩:=KS.out w1 hb1
 have HB1:=hid hb1
 clear hb1 q0 q1 q2
 cases bk with
 | false =>
  go_wp2_with fail
  go_ret
  obtain ⟨e1,e2⟩:=codeP_no (ka,kb) val HBK.out L
  rw [e1,e2]
  exact ⟨rfl,STurn.below HS.out (bel_then HBV.out HBV.out.size HB1.out)⟩
 | true =>
  have HM:=hid (may_any (.slice p0 o.length c0) o w1 ((HV.out.kept HBV.out).kept HB1.out) HF.out)
  obtain ⟨bm,hbm⟩:∃b,mayB (o.map Fx.fld)=b:=⟨_,rfl⟩
  have HBM:=hid hbm
  rw [hbm] at HM
  clear hbm
  go_wp2_with fail
  refine HM.out.mono ?_
  rintro e w2 ⟨rfl,hg2⟩
  have hb2:=bel_then HB1.out HB1.out.size hg2.below
  have HB2:=hid hb2
  have HB2D:Hid (Below V.heap.size V w2.drew):=hb2.drew
  have hs2:=hb2.size
  clear hg2 HM r0 r1 r2
  cases bm with
  | false =>
   go_wp2_with fail
   go_ret
   obtain ⟨e1,e2⟩:=codeP_bad (ka,kb) val HBK.out (by rw [←HVAL.out];exact HBM.out) L
   rw [e1,e2]
   exact ⟨rfl,STurn.below HS.out (bel_then HBV.out HBV.out.size hb2)⟩
  | true =>
   have q2:=KS.out w2.drew HB2D.out
   have HC:=hid (wcopied_any (.slice p0 o.length c0) o w2.drew ((HV.out.kept HBV.out).kept HB2D.out) HF.out (may_fit HBM.out).2)
   clear hb2
   go_wp2_with fail
   refine wp_region_held_drew (S:=fun w'=>w'.cell? ⟨g,0,none⟩=some (.map (some m))∧w'.cell? ⟨N,0,none⟩=some (.string ka)∧w'.cell? ⟨N,1,none⟩=some (.string kb)) (by kernel_rfl) q2 (fun hHeld=>?_)
   refine tkv 0 (.pointer (some ⟨g,0,none⟩)) hHeld ?_
   simp only [Act.put,sz]
   refine tkv 1 (.pointer (some ⟨g,0,none⟩)) hHeld ?_
   simp only [Act.put,sz]
   refine tkv 2 (.pointer (some ⟨g,0,none⟩)) hHeld ?_
   simp only [Act.put,sz]
   refine tkv 3 (.map (some m)) hHeld ?_
   simp only [Act.put,sz]
   refine tkv 4 (.agg #[.string ka,.string kb]) hHeld ?_
   simp only [Act.put,sz]
   refine tkv 5 (.slice p0 o.length c0) hHeld ?_
   simp only [Act.put,sz]
   refine wpAnyH_ready (rs:=[6]) (by kernel_rfl) (by simp) ?_
   refine AllReadyH.cons (at_drop0 rfl) (fun K hK=>?_) AllReadyH.nil
   rw [if_pos (by rfl)]
   go_simp
   refine HC.out.mono ?_
   rintro e w3 ⟨u,o3,rfl,hJ,ho3,hb3⟩
   have hbw3:Below W.heap.size W w3:=bel_then (bel_then HBV.out HBV.out.size HB2D.out) (Nat.le_trans HBV.out.size (show V.heap.size≤w2.drew.heap.size from HB2.out.size)) hb3
   have q3:=KS.out w3 (bel_then HB2D.out (show V.heap.size≤w2.drew.heap.size from HB2.out.size) hb3)
   obtain ⟨e3,he1,he2⟩:=we_of hJ true
   have hrow:RowS W.heap.size w3 e3 o3 (some val):=⟨he1,by rw [he2];exact own_weakJ hJ (Nat.le_trans HBV.out.size (show V.heap.size≤w2.drew.heap.size from HB2.out.size)),by rw [ho3,HVAL.out];rfl⟩
   obtain ⟨w4,hput,hM4,hg4⟩:=mapG_put (W:=w3) (HS.out.on hbw3).map (k:=(ka,kb)) HFK.out (by have:=HL.out;unfold maxLen;omega) e3
   have HT:=hid (HS.out.lay HN0.out hbw3 (ka,kb) HBK.out e3 o3 (some val) (fun x hx=>by injection hx with hx;rw [←hx,←HVAL.out];exact HBM.out) hrow hM4 hg4)
   have hput':(Instr.mapUpdate 243 (.map (some m)) (.agg #[.string ka,.string kb]) (.agg #[.bool true,u])).run Tryz.prog w3=.ok () w4:=by
    have e4:MW.val e3=.agg #[.bool true,u]:=by show Value.agg #[.bool e3.live,e3.sl]=_;rw [he1,he2]
    rw [←e4]
    exact hput
   have q4:w4.cell? ⟨g,0,none⟩=some (.map (some m))∧w4.cell? ⟨N,0,none⟩=some (.string ka)∧w4.cell? ⟨N,1,none⟩=some (.string kb):=by
    have hml:m<W.heap.size:=HS.out.map.lt
    have hsb:=hbw3.size
    have x0:=HS.out.turned hbw3 hg4
    have hn3:N<w3.heap.size:=by have:=hb3.size;have:w2.drew.heap.size=w2.heap.size:=rfl;omega
    have x1:w4.heap[N]? = w3.heap[N]?:=hg4.block N hn3 (fun e=>by injection e with e;omega)
    exact ⟨by rw [Lib.cell_of_heap x0.1];rfl,(World.cell?_of_block x1).trans q3.2.1,(World.cell?_of_block x1).trans q3.2.2⟩
   obtain ⟨p3,c3,rfl⟩:=ownJ_slice hJ
   clear hJ ho3 hb3 hbw3 he1 he2 hrow hput hM4 hg4
   go_wp2_with fail
   refine hK.out _ _ q3 (fun hHeld=>?_)
   clear hK K
   try simp only [Act.put,sz]
   refine tkv 7 (.agg #[.bool true,.slice p3 o3.length c3]) hHeld ?_
   simp only [Act.put,sz]
   refine wpAnyH_ready (rs:=[8]) (by kernel_rfl) (by simp) ?_
   refine AllReadyH.cons (at_drop0 rfl) (fun K hK=>?_) AllReadyH.nil
   rw [if_pos (by rfl)]
   go_simp
   refine hK.out _ _ q4 (fun hHeld=>?_)
   clear hK K
   try simp only [Act.put,sz]
   refine wpAnyH_done (by kernel_rfl) ?_ _
   go_wp2_with fail
   go_ret
   obtain ⟨e1,e2⟩:=codeP_ok (ka,kb) val HBK.out (by rw [←HVAL.out];exact HBM.out) L
   rw [e1,e2]
   exact ⟨rfl,HT.out⟩
end
section
open Go.RowKit Go.Maps
theorem PrgU.look {n0:Nat} {W:World} {B:Nat→Prop} {g m:Nat} {F:Ky→We} {O:Ky→List Fx} {L:List RowW} (h:PrgU n0 W B g m F O L) (k:Ky) (hk:FitKy k) :
  ∃(lv:Bool) (p:Option Addr) (c:Nat) (o:List Fx),(Instr.lookup 243 (.map (some m)) (.agg #[.string k.1,.string k.2]) true).run Tryz.prog W=.ok (.tuple #[.agg #[.bool lv,.slice p o.length c],.bool (getW L k).isSome]) W ∧
   lv=liveW (getW L k)∧IsXs W (.slice p o.length c) o∧FitX o∧CopyX o∧o.map Fx.fld=valW (getW L k):=by
 have hl:=mapG_look_ok h.map (k:=k) hk
 rw [fS_some] at hl
 cases hr:getW L k with
 | none =>
  have e1:fS L F k=none:=by unfold fS;rw [hr];rfl
  rw [e1,hr] at hl
  exact ⟨false,none,0,[],hl,rfl,isXs_nil W |>.1,(isXs_nil W).2.1,(isXs_nil W).2.2,rfl⟩
 | some r =>
  have e1:fS L F k=some (F k):=by unfold fS;rw [hr];rfl
  rw [e1,hr] at hl
  obtain ⟨h1,h2,h3⟩:=h.row k r hr
  obtain ⟨p,c,hs⟩:=ownJ_slice h2
  have hmay:mayB ((O k).map Fx.fld)=true:=by
   rw [h3]
   cases r with
   | none=>exact may_nil
   | some v=>exact h.ok.may _ (getW_mem hr) v rfl
  refine ⟨(F k).live,p,c,O k,?_,?_,?_,(may_fit hmay).1,(may_fit hmay).2,h3⟩
  ·rw [←hs]
   exact hl
  ·rw [h1]
   cases r<;>rfl
  ·rw [←hs]
   exact h2.1.is
end
section
open Go.RowKit Go.Maps
structure LookS (W:World) (r:Option Addr) (mp:Option Nat) (ka kb:ByteArray) (lv b:Bool) (p:Option Addr) (c:Nat) (o:List Fx):Prop where
 all:∀w',Below W.heap.size W w'→Calls Tryz.prog 170 #[.pointer r] w' fun e w2=>e=.returned (.map mp)∧w2=w'
 look:∀w',Below W.heap.size W w'→(Instr.lookup 243 (.map mp) (.agg #[.string ka,.string kb]) true).run Tryz.prog w'=.ok (.tuple #[.agg #[.bool lv,.slice p o.length c],.bool b]) w'
set_option maxRecDepth 100000 in
theorem LookS.of {n0:Nat} {W:World} {B:Nat→Prop} {g m:Nat} {F:Ky→We} {O:Ky→List Fx} {L:List RowW} (h:PrgU n0 W B g m F O L) (ka kb:ByteArray) (hk:FitKy (ka,kb)) :
  ∃lv p c o,LookS W (some ⟨g,0,none⟩) (some m) ka kb lv (getW L (ka,kb)).isSome p c o∧lv=liveW (getW L (ka,kb))∧IsXs W (.slice p o.length c) o∧FitX o∧CopyX o∧o.map Fx.fld=valW (getW L (ka,kb)):=by
 obtain ⟨lv,p,c,o,hlk,hrest⟩:=h.look (ka,kb) hk
 refine ⟨lv,p,c,o,⟨fun w' hb=>allW_is g m w' (h.on hb).cell,fun w' hb=>?_⟩,hrest⟩
 have hx:=mapG_look_ok (h.on hb).map (k:=(ka,kb)) hk
 have he:(Instr.lookup 243 (.map (some m)) (.agg #[.string ka,.string kb]) true).run Tryz.prog W=.ok (.tuple #[MW.val ((fS L F (ka,kb)).getD MW.zero),.bool (fS L F (ka,kb)).isSome]) W:=mapG_look_ok h.map (k:=(ka,kb)) hk
 rw [hlk] at he
 injection he with he _
 rw [he]
 exact hx
set_option maxHeartbeats 4000000 in
set_option maxRecDepth 100000 in
theorem wget_gen {W:World} {r:Option Addr} {mp:Option Nat} {ka kb:ByteArray} {lv b:Bool} {p:Option Addr} {c:Nat} {o:List Fx} (h:LookS W r mp ka kb lv b p c o) (hx:IsXs W (.slice p o.length c) o) (hf:FitX o) (hc:CopyX o) :
  Calls Tryz.prog 158 #[.pointer r,.agg #[.string ka,.string kb]] W fun e w'=>∃p' c' o',e=.returned (.tuple #[.slice p' o'.length c',.bool lv,.bool b])∧OwnJ W.heap.size w' (.slice p' o'.length c') o'∧o'.map Fx.fld=o.map Fx.fld∧Below W.heap.size W w':=by
 obtain ⟨N,hN⟩:∃N,W.heap.size=N:=⟨_,rfl⟩
 obtain ⟨V,hV⟩:∃V,W.alloc (.cells #[.string ka,.string kb] 39)=V:=⟨_,rfl⟩
 have hbV:Below W.heap.size W V:=by rw [←hV];exact (Below.refl _ _).alloc (Nat.le_refl _) _
 have hbox:V.heap[N]? = some (.cells #[.string ka,.string kb] 39 (0,0)):=by rw [←hV,←hN];exact heap_alloc_new W _
 have hsV:V.heap.size=N+1:=by rw [←hV,←hN];simp
 have KS:Hid (∀w':World,Below V.heap.size V w'→w'.cell? ⟨N,0,none⟩=some (.string ka)∧w'.cell? ⟨N,1,none⟩=some (.string kb)∧(Instr.lookup 243 (.map mp) (.agg #[.string ka,.string kb]) true).run Tryz.prog w'=.ok (.tuple #[.agg #[.bool lv,.slice p o.length c],.bool b]) w'):=fun w' hbl=>by
  have h3:=(hbl.block N (by omega)).trans hbox
  exact ⟨by rw [Lib.cell_of_heap h3];rfl,by rw [Lib.cell_of_heap h3];rfl,h.look _ (bel_then hbV hbV.size hbl)⟩
 obtain ⟨X1,hX1⟩:∃X1,V.drew.alloc (.cells #[.bool false,.slice none 0 0] 259)=X1:=⟨_,rfl⟩
 have hb1:Below V.heap.size V X1:=by rw [←hX1];exact ((Below.refl _ V).drew).alloc (Nat.le_refl _) _
 have hb2:Below V.heap.size V (X1.setCell ⟨N+1,0,none⟩ (.bool lv)):=hb1.setCell (show V.heap.size≤N+1 by omega) _
 have hb3:Below V.heap.size V ((X1.setCell ⟨N+1,0,none⟩ (.bool lv)).setCell ⟨N+1,1,none⟩ (.slice p o.length c)):=hb2.setCell (show V.heap.size≤N+1 by omega) _
 have ho1:X1.heap[N+1]? = some (.cells #[.bool false,.slice none 0 0] 259 (0,0)):=by rw [←hX1,←hsV];exact heap_alloc_new V.drew _
 have ho2:((X1.setCell ⟨N+1,0,none⟩ (.bool lv)).setCell ⟨N+1,1,none⟩ (.slice p o.length c)).heap[N+1]? = some (.cells #[.bool lv,.slice p o.length c] 259 (0,0)):=heap_setCell_same (X1.setCell ⟨N+1,0,none⟩ (.bool lv)) (N+1) 1 _ _ _ (heap_setCell_same X1 (N+1) 0 _ _ _ ho1)
 obtain ⟨X3,hX3⟩:∃X3,(X1.setCell ⟨N+1,0,none⟩ (.bool lv)).setCell ⟨N+1,1,none⟩ (.slice p o.length c)=X3:=⟨_,rfl⟩
 rw [hX3] at ho2 hb3
 have z0:X1.cell? ⟨N+1,0,none⟩=some (.bool false):=cz ho1
 have z1:X1.cell? ⟨N+1,1,none⟩=some (.slice none 0 0):=cz ho1
 have z2:=Lib.frozen_of_heap ho1 0
 have z3:=Lib.frozen_of_heap ho1 1
 have KT:Hid (∀w':World,Below X3.heap.size X3.drew w'→w'.cell? ⟨N+1,0,none⟩=some (.bool lv)∧w'.cell? ⟨N+1,1,none⟩=some (.slice p o.length c)):=fun w' hbl=>by
  have h3:=(hbl.block (N+1) (by have:=(Array.getElem?_eq_some_iff.1 ho2).1;omega)).trans ho2
  exact ⟨by rw [Lib.cell_of_heap h3];rfl,by rw [Lib.cell_of_heap h3];rfl⟩
 have HALL:Hid (∀w':World,Below V.heap.size V w'→Calls Tryz.prog 170 #[.pointer r] w' fun e w2=>e=.returned (.map mp)∧w2=w'):=fun w' hb=>h.all w' (bel_then hbV hbV.size hb)
 have hbd:Below V.heap.size V V.drew:=(Below.refl _ V).drew
 have HBD:=hid hbd
 have HB1:=hid hb1
 have HB3:=hid hb3
 have HBV:=hid hbV
 have q0:=KS.out V.drew hbd
 have q1:=KS.out _ hb1
 have q2:=KS.out _ hb3
 have q3:=KT.out X3.drew (Below.refl _ _)
 have HC:=hid (wcopied_any (.slice p o.length c) o X3.drew ((hx.kept hbV).kept (show Below V.heap.size V X3.drew from hb3.drew)) hf hc)
 clear h hbV hbox hb1 hb2 hb3 ho1 ho2 KS hbd hx hf hc
 go_enter Tryz.func158,Tryz.ntmps158
 go_wp2_with fail
 try rw [hN]
 try rw [hV]
 go_region_held3 (fun w'=>w'.cell? ⟨N,0,none⟩=some (.string ka)∧w'.cell? ⟨N,1,none⟩=some (.string kb)∧(Instr.lookup 243 (.map mp) (.agg #[.string ka,.string kb]) true).run Tryz.prog w'=.ok (.tuple #[.agg #[.bool lv,.slice p o.length c],.bool b]) w')
  (first|exact q0|exact q1|exact q2)
  (first|(go_at_call 170;refine (HALL.out _ (by first|exact HBD.out|exact HB1.out)).mono ?_;rintro e w5 ⟨rfl,rfl⟩))
 all_goals
  go_wp2_with fail
  try rw [hX3]
  refine wp_region_held_drew (S:=fun w'=>w'.cell? ⟨N+1,0,none⟩=some (.bool lv)∧w'.cell? ⟨N+1,1,none⟩=some (.slice p o.length c)) (by kernel_rfl) q3 (fun hHeld=>?_)
  refine tkv 0 (.pointer (some ⟨N+1,1,none⟩)) hHeld ?_
  simp only [Act.put,sz]
  refine tkv 1 (.slice p o.length c) hHeld ?_
  simp only [Act.put,sz]
  refine tkv 3 (.pointer (some ⟨N+1,0,none⟩)) hHeld ?_
  simp only [Act.put,sz]
  refine tkv 4 (.bool lv) hHeld ?_
  simp only [Act.put,sz]
  refine tkv 5 (.bool b) hHeld ?_
  simp only [Act.put,sz]
  refine wpAnyH_ready (rs:=[2]) (by kernel_rfl) (by simp) ?_
  refine AllReadyH.cons (at_drop0 rfl) (fun K hK=>?_) AllReadyH.nil
  rw [if_pos (by rfl)]
  go_simp
  refine HC.out.mono ?_
  rintro e w5 ⟨u,o',rfl,hJ,ho',hb5⟩
  have q5:=KT.out w5 hb5
  have HP:Hid (OwnJ W.heap.size w5 u o'∧o'.map Fx.fld=o.map Fx.fld∧Below W.heap.size W w5):=by
   have hbw:Below W.heap.size W X3.drew:=bel_then HBV.out HBV.out.size HB3.out.drew
   exact ⟨own_weakJ hJ hbw.size,ho',bel_then hbw hbw.size hb5⟩
  obtain ⟨p',c',rfl⟩:=ownJ_slice hJ
  clear hJ ho' hb5
  go_wp2_with fail
  refine hK.out _ _ q5 (fun hHeld=>?_)
  clear hK K
  try simp only [Act.put,sz]
  refine tkv 6 (.slice p' o'.length c') hHeld ?_
  simp only [Act.put,sz]
  refine tkv 7 (.bool lv) hHeld ?_
  simp only [Act.put,sz]
  refine tkv 8 (.bool b) hHeld ?_
  simp only [Act.put,sz]
  refine wpAnyH_done (by kernel_rfl) ?_ _
  go_wp2_with fail
  go_ret3
  exact ⟨p',c',o',rfl,HP.out⟩
theorem wget_any {n0:Nat} {W:World} {B:Nat→Prop} {g:Nat} {L:List RowW} (h:PrgW n0 W B g L) (k:Ky) (hk:FitKy k) :
  Calls Tryz.prog 158 #[.pointer (some ⟨g,0,none⟩),.agg #[.string k.1,.string k.2]] W fun e w'=>GetPostP W L k e w':=by
 obtain ⟨m,F,O,h⟩:=h
 obtain ⟨lv,p,c,o,hl,rfl,hx,hf,hc,ho⟩:=LookS.of h k.1 k.2 hk
 refine (wget_gen hl hx hf hc).mono ?_
 rintro e w' ⟨p',c',o',rfl,h1,h2,h3⟩
 exact ⟨p',c',o',rfl,h1,h2.trans ho,h3⟩
end
section
open Go.RowKit
theorem put_ver {w:World} {X:Nat} (hz:w.heap[X]? = some (.cells #[.int .i64 0,.int .u64 0,.int .i64 0,.bool false,.slice none 0 0] 46 (0,0))) (x:Vx) (WZ:World) (hWZ:(((((w.setCell ⟨X,0,none⟩ (.int .i64 x.num)).setCell ⟨X,1,none⟩ (.int .u64 x.stamp)).setCell ⟨X,2,none⟩ (.int .i64 x.tick)).setCell ⟨X,3,none⟩ (.bool x.live)).setCell ⟨X,4,none⟩ (.slice x.p x.o.length x.cap))=WZ) :
  WZ.heap[X]? = some (.cells #[.int .i64 x.num,.int .u64 x.stamp,.int .i64 x.tick,.bool x.live,.slice x.p x.o.length x.cap] 46 (0,0))∧Fr (fun b=>b=X) w WZ:=by
 rw [←hWZ]
 exact ⟨heap_setCell_same _ X 4 _ _ _ (heap_setCell_same _ X 3 _ _ _ (heap_setCell_same _ X 2 _ _ _ (heap_setCell_same _ X 1 _ _ _ (heap_setCell_same _ X 0 _ _ _ hz)))),((((fr_set5 w X 0 _).then (fr_set5 _ X 1 _) fun k hk=>Or.inl hk).then (fr_set5 _ X 2 _) fun k hk=>Or.inl hk).then (fr_set5 _ X 3 _) fun k hk=>Or.inl hk).then (fr_set5 _ X 4 _) fun k hk=>Or.inl hk⟩
theorem two_boxes5 (w:World) (c1 c2:Array Value) (t1 t2:TypeId):Below w.heap.size w ((w.alloc (.cells c1 t1)).alloc (.cells c2 t2))∧((w.alloc (.cells c1 t1)).alloc (.cells c2 t2)).heap[w.heap.size]? = some (.cells c1 t1 (0,0))∧((w.alloc (.cells c1 t1)).alloc (.cells c2 t2)).heap[w.heap.size+1]? = some (.cells c2 t2 (0,0))∧((w.alloc (.cells c1 t1)).alloc (.cells c2 t2)).heap.size=w.heap.size+2:=by
 have hb1:Below w.heap.size w (w.alloc (.cells c1 t1)):=(Below.refl _ _).alloc (Nat.le_refl _) _
 have hs1:(w.alloc (.cells c1 t1)).heap.size=w.heap.size+1:=by simp
 have hb2:Below (w.alloc (.cells c1 t1)).heap.size (w.alloc (.cells c1 t1)) ((w.alloc (.cells c1 t1)).alloc (.cells c2 t2)):=(Below.refl _ _).alloc (Nat.le_refl _) _
 have h1:(w.alloc (.cells c1 t1)).heap[w.heap.size]? = some (.cells c1 t1 (0,0)):=heap_alloc_new w _
 have h2:((w.alloc (.cells c1 t1)).alloc (.cells c2 t2)).heap[(w.alloc (.cells c1 t1)).heap.size]? = some (.cells c2 t2 (0,0)):=heap_alloc_new _ _
 rw [hs1] at h2
 exact ⟨bel_then hb1 hb1.size hb2,(hb2.block _ (by omega)).trans h1,h2,by simp⟩
theorem vans_box {W V w WZ:World} {o:Option Vr} {x:Vx} {B:Nat} (hb:Below W.heap.size W V) (hbw:Below V.heap.size V w) (hB:W.heap.size≤B) (hBV:B<V.heap.size) (hv:x.ver=o.getD zeroV) (hj:OwnJ V.heap.size w x.sl x.o) (f:Fr (fun b=>b=B) w WZ):VAns W o (.returned (.tuple #[.agg (encVx x).toArray,.bool o.isSome])) WZ:=by
 have q:Below W.heap.size W w:=bel_then hb hb.size hbw
 exact ⟨x,rfl,hv,own_weakJ (ownJ_fr hj f fun k hk e=>by have:=(ownJ_blk hj k hk).1;omega) hb.size,q.trans (f.below q.size fun k hk=>by omega)⟩
set_option maxHeartbeats 4000000 in
set_option maxRecDepth 100000 in
theorem xbefore_any {n0 n:Nat} {D:List RowD} {W:World} {g:Nat} {snap id:Int} {h gw:Nat} {ks rs:Value} {hd hs hc hq ht:Nat} {vers:Int} (x:XAt W g snap id h gw ks rs hd hs hc hq ht vers) (hD:DirS n0 hd n D W) (k:Ky) (hk:FitK k) :
  Calls Tryz.prog 101 #[.pointer (some ⟨g,0,none⟩),.agg #[.string k.1,.string k.2]] W fun e w'=>VAns W (atV (ofD D k) snap) e w':=by
 obtain ⟨hb0,h1,h2,hsz⟩:=two_boxes5 W #[.string k.1,.string k.2] #[.int .i64 0,.int .u64 0,.int .i64 0,.bool false,.slice none 0 0] 39 46
 obtain ⟨V,hV⟩:∃V,(W.alloc (.cells #[.string k.1,.string k.2] 39)).alloc (.cells #[.int .i64 0,.int .u64 0,.int .i64 0,.bool false,.slice none 0 0] 46)=V:=⟨_,rfl⟩
 obtain ⟨Q,hQ⟩:∃Q,W.heap.size=Q:=⟨_,rfl⟩
 rw [hV] at hb0 h1 h2 hsz
 rw [hQ] at h1 h2 hsz
 have HV:=hid hb0
 have HSZ:Hid (V.heap.size=Q+2):=hsz
 have HQQ:Hid (W.heap.size=Q):=hQ
 have HH2:=hid h2
 have xv:=x.on hb0
 obtain ⟨x0,_,x2,_⟩:=xv.xc
 obtain ⟨s0,_⟩:=xv.sc
 have a0:V.cell? ⟨Q,0,none⟩=some (.string k.1):=cz h1
 have a1:V.cell? ⟨Q,1,none⟩=some (.string k.2):=cz h1
 have HS:Hid (∀W',Fr (fun b=>b=Q+1) V W'→W'.cell? ⟨Q,0,none⟩=some (.string k.1)∧W'.cell? ⟨Q,1,none⟩=some (.string k.2)∧W'.cell? ⟨g,0,none⟩=some (.int .u64 snap)∧W'.cell? ⟨g,2,none⟩=some (.pointer (some ⟨h,0,none⟩))∧W'.cell? ⟨h,0,none⟩=some (.pointer (some ⟨hd,0,none⟩))):=fun W' f=>by
  have hg:=(Array.getElem?_eq_some_iff.1 x.x).1
  have hh:=(Array.getElem?_eq_some_iff.1 x.s).1
  exact ⟨f.cell a0 (by show ¬ Q=Q+1;omega),f.cell a1 (by show ¬ Q=Q+1;omega),f.cell x0 (by show ¬ g=Q+1;omega),f.cell x2 (by show ¬ g=Q+1;omega),f.cell s0 (by show ¬ h=Q+1;omega)⟩
 have HA:Hid (∀n',Calls Tryz.prog 110 #[.pointer (some ⟨hd,0,none⟩),.agg #[.string k.1,.string k.2],.int .u64 snap] (V.drewN n') fun e w'=>VAns (V.drewN n') (atV (ofD D k) snap) e w'):=fun n'=>s_at ((hD.on hb0).on (bel_drewN (Below.refl V.heap.size V) n')) k hk snap
 have hS0:=HS.out V (Fr.refl _ _)
 obtain ⟨o,ho⟩:∃o,atV (ofD D k) snap=o:=⟨_,rfl⟩
 rw [ho] at HA ⊢
 obtain ⟨ka,kb⟩:=k
 simp only at *
 clear x hD hk xv h1 h2 hb0 hsz ho a0 a1 x0 x2 s0
 go_enter Tryz.func101,Tryz.ntmps101
 go_upto_region 1 with fail
 try rw [hV]
 try rw [hQ]
 refine wp_region_held_drew (S:=fun w'=>w'.cell? ⟨Q,0,none⟩=some (.string ka)∧w'.cell? ⟨Q,1,none⟩=some (.string kb)∧w'.cell? ⟨g,0,none⟩=some (.int .u64 snap)∧w'.cell? ⟨g,2,none⟩=some (.pointer (some ⟨h,0,none⟩))∧w'.cell? ⟨h,0,none⟩=some (.pointer (some ⟨hd,0,none⟩))) (by kernel_rfl) hS0 (fun hHeld=>?_)
 refine tkv 0 (.pointer (some ⟨g,0,none⟩)) hHeld ?_
 simp only [Act.put,sz]
 refine tkv 1 (.pointer (some ⟨g,0,none⟩)) hHeld ?_
 simp only [Act.put,sz]
 refine tkv 2 (.pointer (some ⟨g,2,none⟩)) hHeld ?_
 simp only [Act.put,sz]
 refine tkv 3 (.pointer (some ⟨h,0,none⟩)) hHeld ?_
 simp only [Act.put,sz]
 refine tkv 4 (.pointer (some ⟨h,0,none⟩)) hHeld ?_
 simp only [Act.put,sz]
 refine tkv 5 (.pointer (some ⟨h,0,none⟩)) hHeld ?_
 simp only [Act.put,sz]
 refine tkv 6 (.pointer (some ⟨h,0,none⟩)) hHeld ?_
 simp only [Act.put,sz]
 refine tkv 7 (.pointer (some ⟨hd,0,none⟩)) hHeld ?_
 simp only [Act.put,sz]
 refine tkv 8 (.agg #[.string ka,.string kb]) hHeld ?_
 simp only [Act.put,sz]
 refine tkv 9 (.pointer (some ⟨g,0,none⟩)) hHeld ?_
 simp only [Act.put,sz]
 refine tkv 10 (.pointer (some ⟨g,0,none⟩)) hHeld ?_
 simp only [Act.put,sz]
 refine tkv 11 (.pointer (some ⟨g,0,none⟩)) hHeld ?_
 simp only [Act.put,sz]
 refine tkv 12 (.int .u64 snap) hHeld ?_
 simp only [Act.put,sz]
 clear hHeld hS0
 refine wpAnyH_ready (rs:=[13]) (by kernel_rfl) (by simp) ?_
 refine AllReadyH.cons (at_drop0 rfl) (fun K hK=>?_) AllReadyH.nil
 rw [if_pos (by rfl)]
 go_simp
 refine (HA.out 1).mono ?_
 rintro e1 w1 ⟨y,rfl,hv,hj,hb1⟩
 have hbv:Below V.heap.size V w1:=bel_then (bel_drewN (Below.refl V.heap.size V) 1) (by simp) hb1
 have HB1:=hid hbv
 have hz:w1.heap[Q+1]? = some (.cells #[.int .i64 0,.int .u64 0,.int .i64 0,.bool false,.slice none 0 0] 46 (0,0)):=(hbv.block _ (by have:=HSZ.out;omega)).trans HH2.out
 have hS1:=HS.out w1 (Fr.of_below hbv)
 have HJ:Hid (OwnJ V.heap.size w1 y.sl y.o):=hj
 have HVV:=hid hv
 clear hb1 hbv hj hv HA HH2
 obtain ⟨xn,xs,xt,xl,xp,xc,xo⟩:=y
 simp only [encVx,Vx.sl] at *
 go_wp2_with fail
 refine hK.out _ _ hS1 (fun hHeld=>?_)
 clear hK K
 try simp only [Act.put,sz]
 clear hS1
 refine tkv 14 (.agg #[.int .i64 xn,.int .u64 xs,.int .i64 xt,.bool xl,.slice xp xo.length xc]) hHeld ?_
 simp only [Act.put,sz]
 refine tkv 15 (.bool o.isSome) hHeld ?_
 simp only [Act.put,sz]
 obtain ⟨WZ,hWZ⟩:∃WZ,(((((w1.setCell ⟨Q+1,0,none⟩ (.int .i64 xn)).setCell ⟨Q+1,1,none⟩ (.int .u64 xs)).setCell ⟨Q+1,2,none⟩ (.int .i64 xt)).setCell ⟨Q+1,3,none⟩ (.bool xl)).setCell ⟨Q+1,4,none⟩ (.slice xp xo.length xc))=WZ:=⟨_,rfl⟩
 obtain ⟨hbz,fz⟩:=put_ver hz ⟨xn,xs,xt,xl,xp,xc,xo⟩ WZ hWZ
 have y0:w1.cell? ⟨Q+1,0,none⟩=some (.int .i64 0):=cz hz
 have z0:=Lib.frozen_of_heap hz 0
 have y1:w1.cell? ⟨Q+1,1,none⟩=some (.int .u64 0):=cz hz
 have z1:=Lib.frozen_of_heap hz 1
 have y2:w1.cell? ⟨Q+1,2,none⟩=some (.int .i64 0):=cz hz
 have z2:=Lib.frozen_of_heap hz 2
 have y3:w1.cell? ⟨Q+1,3,none⟩=some (.bool false):=cz hz
 have z3:=Lib.frozen_of_heap hz 3
 have y4:w1.cell? ⟨Q+1,4,none⟩=some (.slice none 0 0):=cz hz
 have z4:=Lib.frozen_of_heap hz 4
 have g0:WZ.cell? ⟨Q+1,0,none⟩=some (.int .i64 xn):=cz hbz
 have g1:WZ.cell? ⟨Q+1,1,none⟩=some (.int .u64 xs):=cz hbz
 have g2:WZ.cell? ⟨Q+1,2,none⟩=some (.int .i64 xt):=cz hbz
 have g3:WZ.cell? ⟨Q+1,3,none⟩=some (.bool xl):=cz hbz
 have g4:WZ.cell? ⟨Q+1,4,none⟩=some (.slice xp xo.length xc):=cz hbz
 have HFIN:=hid (vans_box (x:=⟨xn,xs,xt,xl,xp,xc,xo⟩) HV.out HB1.out (B:=Q+1) (by have:=HQQ.out;omega) (by have:=HSZ.out;omega) HVV.out HJ.out fz)
 have hSz:=HS.out WZ (Fr.then (Fr.of_below HB1.out) fz fun k hk=>Or.inl hk)
 clear hbz fz hz HS
 refine wpAnyH_ready (rs:=[16]) (by kernel_rfl) (by simp) ?_
 refine AllReadyH.cons (at_drop0 rfl) (fun K hK=>?_) AllReadyH.nil
 rw [if_pos (by rfl)]
 go_simp
 go_wp2_with fail
 try rw [hWZ]
 refine hK.out _ _ hSz (fun hHeld=>?_)
 clear hK K
 try simp only [Act.put,sz]
 clear hSz
 refine tkv 17 (.bool o.isSome) hHeld ?_
 simp only [Act.put,sz]
 refine wpAnyH_done (by kernel_rfl) ?_ _
 go_wp2_with fail
 exact bodyPost_ret (v:=.tuple #[.agg #[.int .i64 xn,.int .u64 xs,.int .i64 xt,.bool xl,.slice xp xo.length xc],.bool o.isSome]) (by simp [results,Tryz.results101,go_sem,g0,g1,g2,g3,g4]) rfl HFIN.out
end
end Go.Proofs.YtmhlcnmfbolgdaaGreat
