/-
  Texts of this claim, one behind the other: Vp5 Mqa Vp6 Vp7 Vp9 Vpa Vpb Vpc Ws7 Vpd Vpe.
-/
import Derived.Test.YtmhlcnmfbolgdaaGreatPf
namespace Go.Proofs.YtmhlcnmfbolgdaaGreat
section
open Go.RowKit
theorem num_last {l:List Vr} (h:OkV l) {v:Vr} (hv:v∈l):v.num≤(lastV l).num:=by
 obtain ⟨i,hi,rfl⟩:=List.getElem_of_mem hv
 have key:∀d j,(hj:j<l.length)→j+d+1=l.length→(l[j]).num+d=(lastV l).num:=by
  intro d
  induction d with
  | zero =>
   intro j hj e
   have e4:lastV l=l[j]:=by
    unfold lastV
    rw [List.getLast?_eq_getElem?,show l.length-1=j by omega,List.getElem?_eq_getElem hj]
    rfl
   rw [e4]
   omega
  | succ d ih =>
   intro j hj e
   have q:=ih (j+1) (by omega) (by omega)
   have q2:=h.nums j (by omega)
   omega
 have:=key (l.length-1-i) i hi (by omega)
 omega
theorem atV_in {l:List Vr} {t:Int} {v:Vr} (h:atV l t=some v):v∈l:=by
 unfold atV at h
 split at h
 ·cases h
 ·exact List.mem_of_getElem? h
theorem dnum_le {n0 g n:Nat} {D:List RowD} {W:World} (h:DirS n0 g n D W) (k:Ky) (t:Int):0≤((atV (ofD D k) t).getD zeroV).num∧((atV (ofD D k) t).getD zeroV).num≤n:=by
 obtain ⟨m,G,h⟩:=h
 cases e:atV (ofD D k) t with
 | none=>exact ⟨Int.le_refl _,by show (0:Int)≤n;omega⟩
 | some v =>
  have hm:=atV_in e
  have ho:OkV (ofD D k):=ofD_ok h.ok k
  have h1:=num_last ho hm
  have h2:=h.num k
  have h3:=(ho.first v hm).1
  show 0≤v.num∧v.num≤n
  omega
set_option linter.unusedSimpArgs false in
set_option maxHeartbeats 8000000 in
set_option maxRecDepth 100000 in
theorem xnow_any {n0 n:Nat} {D:List RowD} {W:World} {g:Nat} {snap id:Int} {h gw:Nat} {ks rs:Value} {hd hs hc hq ht:Nat} {vers:Int} {B:Nat→Prop} {L:List RowW} (x:XAt W g snap id h gw ks rs hd hs hc hq ht vers) (hD:DirS n0 hd n D W) (hn:n≤2400000000000) (hw:PrgW n0 W B gw L) (en:Bool) (mk:Mk) (k:Ky) (hk:FitK k) :
  Calls Tryz.prog 94 #[.pointer (some ⟨g,0,none⟩),.agg #[.string k.1,.string k.2]] W fun e w'=>VAns W (isS D ⟨snap,en,mk,L⟩ k) e w':=by
 obtain ⟨hb0,h1,h2,hsz⟩:=two_boxes5 W #[.string k.1,.string k.2] #[.int .i64 0,.int .u64 0,.int .i64 0,.bool false,.slice none 0 0] 39 46
 obtain ⟨V,hV⟩:∃V,(W.alloc (.cells #[.string k.1,.string k.2] 39)).alloc (.cells #[.int .i64 0,.int .u64 0,.int .i64 0,.bool false,.slice none 0 0] 46)=V:=⟨_,rfl⟩
 obtain ⟨Q,hQ⟩:∃Q,W.heap.size=Q:=⟨_,rfl⟩
 rw [hV] at hb0 h1 h2 hsz
 rw [hQ] at h1 h2 hsz
 have HV:=hid hb0
 have HSZ:Hid (V.heap.size=Q+2):=hsz
 have HQQ:Hid (W.heap.size=Q):=hQ
 have HH2:=hid h2
 have xv:=x.on hb0
 obtain ⟨_,_,_,x3,_⟩:=xv.xc
 have a0:V.cell? ⟨Q,0,none⟩=some (.string k.1):=cz h1
 have a1:V.cell? ⟨Q,1,none⟩=some (.string k.2):=cz h1
 have HS:Hid (∀W',Below V.heap.size V W'→W'.cell? ⟨Q,0,none⟩=some (.string k.1)∧W'.cell? ⟨Q,1,none⟩=some (.string k.2)∧W'.cell? ⟨g,3,none⟩=some (.pointer (some ⟨gw,0,none⟩))):=fun W' hb =>
  ⟨(hb.cell (cell_block a0)).trans a0,(hb.cell (cell_block a1)).trans a1,(hb.cell (cell_block x3)).trans x3⟩
 have HBE:=hid (xbefore_any xv (hD.on hb0) k hk)
 have HGE:Hid (∀W',Below V.heap.size V W'→Calls Tryz.prog 158 #[.pointer (some ⟨gw,0,none⟩),.agg #[.string k.1,.string k.2]] W' fun e w'=>GetPostP W' L k e w'):=fun W' hb=>wget_any (n0:=n0) (B:=B) (by obtain ⟨m,F,O,hu⟩:=hw;exact ⟨m,F,O,(hu.on hb0).on hb⟩) k hk
 have hnum:=dnum_le hD k snap
 have HIS:Hid (∀y:Vx,y.ver=(atV (ofD D k) snap).getD zeroV→(getW L k=none→isS D ⟨snap,en,mk,L⟩ k=atV (ofD D k) snap)∧(∀(r:Wr) (p:Option Addr) (c:Nat) (ov:List Fx),getW L k=some r→ov.map Fx.fld=valW (some r)→isS D ⟨snap,en,mk,L⟩ k=some (Vx.ver ⟨y.num+1,0,0,liveW (some r),p,c,ov⟩))):=fun y hy=>by
  refine ⟨fun e=>?_,fun r p c ov e ho=>?_⟩
  ·unfold isS
   rw [show getW (Tx.wr ⟨snap,en,mk,L⟩) k=none from e]
   rfl
  ·unfold isS
   rw [show getW (Tx.wr ⟨snap,en,mk,L⟩) k=some r from e]
   show some (Vr.mk _ _ _ _ _)=some _
   congr 1
   show Vr.mk (((atV (ofD D k) snap).getD zeroV).num+1) 0 0 (liveW (some r)) (valW (some r))=_
   rw [←hy,←ho]
   rfl
 obtain ⟨o,ho⟩:∃o,atV (ofD D k) snap=o:=⟨_,rfl⟩
 obtain ⟨is,his⟩:∃is,isS D ⟨snap,en,mk,L⟩ k=is:=⟨_,rfl⟩
 rw [ho] at HBE HIS hnum
 rw [his] at HIS ⊢
 obtain ⟨GX,hGX⟩:∃GX,getW L k=GX:=⟨_,rfl⟩
 unfold GetPostP at HGE
 rw [hGX] at HGE HIS
 obtain ⟨ka,kb⟩:=k
 simp only at *
 clear x hD hk xv h1 h2 hb0 hsz ho his hGX hw
 have HNUM:Hid (∀y:Vx,y.ver=o.getD zeroV→0≤y.num∧y.num≤2400000000000):=fun y hy=>by
  have e:y.num=(o.getD zeroV).num:=by rw [←hy];rfl
  rw [e]
  omega
 clear hnum hn
 go_enter Tryz.func94,Tryz.ntmps94
 go_upto_region 1 with fail
 try rw [hV]
 try rw [hQ]
 go_wp2_with fail
 refine HBE.out.mono ?_
 rintro e1 w1 ⟨y,rfl,hv,hj,hb1⟩
 obtain ⟨X,hX⟩:∃X,w1.heap.size=X:=⟨_,rfl⟩
 obtain ⟨W2,hW2⟩:∃W2,w1.alloc (.cells #[.int .i64 0,.int .u64 0,.int .i64 0,.bool false,.slice none 0 0] 46)=W2:=⟨_,rfl⟩
 have hx2:W2.heap[X]? = some (.cells #[.int .i64 0,.int .u64 0,.int .i64 0,.bool false,.slice none 0 0] 46 (0,0)):=by rw [←hW2,←hX];exact heap_alloc_new w1 _
 have hal:Below w1.heap.size w1 W2:=by rw [←hW2];exact (Below.refl _ _).alloc (Nat.le_refl _) _
 have hsX:V.heap.size≤X:=by rw [←hX];exact hb1.size
 have HNY:=hid (HNUM.out y hv)
 have HIY:=hid (HIS.out y hv)
 have HVV:=hid hv
 clear hv HNUM HIS HBE a0 a1 x3
 obtain ⟨yn,ys,yt,yl,yp,yc,yo⟩:=y
 simp only [encVx,Vx.sl] at *
 obtain ⟨W3,hW3⟩:∃W3,(((((W2.setCell ⟨X,0,none⟩ (.int .i64 yn)).setCell ⟨X,1,none⟩ (.int .u64 ys)).setCell ⟨X,2,none⟩ (.int .i64 yt)).setCell ⟨X,3,none⟩ (.bool yl)).setCell ⟨X,4,none⟩ (.slice yp yo.length yc))=W3:=⟨_,rfl⟩
 obtain ⟨hbx,fx⟩:=put_ver hx2 ⟨yn,ys,yt,yl,yp,yc,yo⟩ W3 hW3
 have y0:W2.cell? ⟨X,0,none⟩=some (.int .i64 0):=cz hx2
 have z0:=Lib.frozen_of_heap hx2 0
 have y1:W2.cell? ⟨X,1,none⟩=some (.int .u64 0):=cz hx2
 have z1:=Lib.frozen_of_heap hx2 1
 have y2:W2.cell? ⟨X,2,none⟩=some (.int .i64 0):=cz hx2
 have z2:=Lib.frozen_of_heap hx2 2
 have y3:W2.cell? ⟨X,3,none⟩=some (.bool false):=cz hx2
 have z3:=Lib.frozen_of_heap hx2 3
 have y4:W2.cell? ⟨X,4,none⟩=some (.slice none 0 0):=cz hx2
 have z4:=Lib.frozen_of_heap hx2 4
 have g0:W3.cell? ⟨X,0,none⟩=some (.int .i64 yn):=cz hbx
 have g1:W3.cell? ⟨X,1,none⟩=some (.int .u64 ys):=cz hbx
 have g2:W3.cell? ⟨X,2,none⟩=some (.int .i64 yt):=cz hbx
 have g3:W3.cell? ⟨X,3,none⟩=some (.bool yl):=cz hbx
 have g4:W3.cell? ⟨X,4,none⟩=some (.slice yp yo.length yc):=cz hbx
 have hb13:Below w1.heap.size w1 W3:=hal.trans (fx.below hal.size fun k hk=>by omega)
 have hbV3:Below V.heap.size V W3:=bel_then hb1 hb1.size hb13
 have hS3:=HS.out W3 hbV3
 have HG3:=hid fun n'=>HGE.out (W3.drewN n') (bel_drewN hbV3 n')
 have HJ3:Hid (OwnJ V.heap.size W3 (.slice yp yo.length yc) yo):=ownJ_fr (P:=fun _=>False) hj (Fr.of_below hb13) fun _ _ f=>f
 have HB3:=hid hbV3
 have HX3:=hid hbx
 have HSX:Hid (V.heap.size≤X∧X<W3.heap.size):=⟨hsX,(Array.getElem?_eq_some_iff.1 hbx).1⟩
 clear hbx fx hal hb13 hbV3 hj hb1 hsX HGE hx2
 go_upto_region 2 with fail
 try rw [hX]
 try rw [hW2]
 try rw [hW3]
 clear y0 y1 y2 y3 y4 z0 z1 z2 z3 z4
 refine wp_region_held_drew (S:=fun w'=>w'.cell? ⟨Q,0,none⟩=some (.string ka)∧w'.cell? ⟨Q,1,none⟩=some (.string kb)∧w'.cell? ⟨g,3,none⟩=some (.pointer (some ⟨gw,0,none⟩))) (by kernel_rfl) hS3 (fun hHeld=>?_)
 refine tkv 0 (.pointer (some ⟨g,0,none⟩)) hHeld ?_
 simp only [Act.put,sz]
 refine tkv 1 (.pointer (some ⟨g,0,none⟩)) hHeld ?_
 simp only [Act.put,sz]
 refine tkv 2 (.pointer (some ⟨g,3,none⟩)) hHeld ?_
 simp only [Act.put,sz]
 refine tkv 3 (.pointer (some ⟨gw,0,none⟩)) hHeld ?_
 simp only [Act.put,sz]
 refine tkv 4 (.agg #[.string ka,.string kb]) hHeld ?_
 simp only [Act.put,sz]
 clear hHeld hS3
 refine wpAnyH_ready (rs:=[5]) (by kernel_rfl) (by simp) ?_
 refine AllReadyH.cons (at_drop0 rfl) (fun K hK=>?_) AllReadyH.nil
 rw [if_pos (by rfl)]
 go_simp
 refine (HG3.out 1).mono ?_
 rintro e5 w5 ⟨vp,vcap,ov,rfl,hoj,hov,hb5⟩
 have hb35:Below W3.heap.size W3 w5:=bel_then (bel_drewN (Below.refl W3.heap.size W3) 1) (by simp) hb5
 have hbV5:Below V.heap.size V w5:=bel_then HB3.out HB3.out.size hb35
 have hS5:=HS.out w5 hbV5
 have hz:w5.heap[Q+1]? = some (.cells #[.int .i64 0,.int .u64 0,.int .i64 0,.bool false,.slice none 0 0] 46 (0,0)):=(hbV5.block _ (by have:=HSZ.out;omega)).trans HH2.out
 have hx5:w5.heap[X]? = some (.cells #[.int .i64 yn,.int .u64 ys,.int .i64 yt,.bool yl,.slice yp yo.length yc] 46 (0,0)):=(hb35.block _ HSX.out.2).trans HX3.out
 have HJ5:Hid (OwnJ V.heap.size w5 (.slice yp yo.length yc) yo):=ownJ_fr (P:=fun _=>False) HJ3.out (Fr.of_below hb35) fun _ _ f=>f
 have HOJ:Hid (OwnJ V.heap.size w5 (.slice vp ov.length vcap) ov):=own_weakJ hoj (Nat.le_trans HB3.out.size (by simp))
 have HOV:=hid hov
 have HB5:=hid hbV5
 clear hb5 hb35 hbV5 hoj hov HG3 HJ3 HX3 HB3 HS g0 g1 g2 g3 g4
 go_wp2_with fail
 refine hK.out _ _ hS5 (fun hHeld=>?_)
 clear hK K
 try simp only [Act.put,sz]
 clear hS5
 refine tkv 6 (.tuple #[.slice vp ov.length vcap,.bool (liveW GX),.bool GX.isSome]) hHeld ?_
 simp only [Act.put,sz]
 refine tkv 7 (.slice vp ov.length vcap) hHeld ?_
 simp only [Act.put,sz]
 refine tkv 10 (.slice vp ov.length vcap) hHeld ?_
 simp only [Act.put,sz]
 refine tkv 8 (.bool (liveW GX)) hHeld ?_
 simp only [Act.put,sz]
 refine tkv 11 (.bool (liveW GX)) hHeld ?_
 simp only [Act.put,sz]
 refine tkv 9 (.bool GX.isSome) hHeld ?_
 simp only [Act.put,sz]
 refine tkv 12 (.bool GX.isSome) hHeld ?_
 simp only [Act.put,sz]
 refine wpAnyH_done (by kernel_rfl) ?_ _
 have y0:w5.cell? ⟨Q+1,0,none⟩=some (.int .i64 0):=cz hz
 have z0:=Lib.frozen_of_heap hz 0
 have y1:w5.cell? ⟨Q+1,1,none⟩=some (.int .u64 0):=cz hz
 have z1:=Lib.frozen_of_heap hz 1
 have y2:w5.cell? ⟨Q+1,2,none⟩=some (.int .i64 0):=cz hz
 have z2:=Lib.frozen_of_heap hz 2
 have y3:w5.cell? ⟨Q+1,3,none⟩=some (.bool false):=cz hz
 have z3:=Lib.frozen_of_heap hz 3
 have y4:w5.cell? ⟨Q+1,4,none⟩=some (.slice none 0 0):=cz hz
 have z4:=Lib.frozen_of_heap hz 4
 have d0:w5.cell? ⟨X,0,none⟩=some (.int .i64 yn):=cz hx5
 have d1:w5.cell? ⟨X,1,none⟩=some (.int .u64 ys):=cz hx5
 have d2:w5.cell? ⟨X,2,none⟩=some (.int .i64 yt):=cz hx5
 have d3:w5.cell? ⟨X,3,none⟩=some (.bool yl):=cz hx5
 have d4:w5.cell? ⟨X,4,none⟩=some (.slice yp yo.length yc):=cz hx5
 cases GX with
 | none =>
  have HI2:=hid (HIY.out.1 rfl)
  obtain ⟨WZ,hWZ⟩:∃WZ,(((((w5.setCell ⟨Q+1,0,none⟩ (.int .i64 yn)).setCell ⟨Q+1,1,none⟩ (.int .u64 ys)).setCell ⟨Q+1,2,none⟩ (.int .i64 yt)).setCell ⟨Q+1,3,none⟩ (.bool yl)).setCell ⟨Q+1,4,none⟩ (.slice yp yo.length yc))=WZ:=⟨_,rfl⟩
  obtain ⟨hbz,fz⟩:=put_ver hz ⟨yn,ys,yt,yl,yp,yc,yo⟩ WZ hWZ
  have g0:WZ.cell? ⟨Q+1,0,none⟩=some (.int .i64 yn):=cz hbz
  have g1:WZ.cell? ⟨Q+1,1,none⟩=some (.int .u64 ys):=cz hbz
  have g2:WZ.cell? ⟨Q+1,2,none⟩=some (.int .i64 yt):=cz hbz
  have g3:WZ.cell? ⟨Q+1,3,none⟩=some (.bool yl):=cz hbz
  have g4:WZ.cell? ⟨Q+1,4,none⟩=some (.slice yp yo.length yc):=cz hbz
  have HFIN:=hid (vans_box (x:=⟨yn,ys,yt,yl,yp,yc,yo⟩) HV.out HB5.out (B:=Q+1) (by have:=HQQ.out;omega) (by have:=HSZ.out;omega) HVV.out HJ5.out fz)
  rw [←HI2.out] at HFIN
  simp only [encVx,Vx.sl] at HFIN
  clear hbz fz hz hx5 HOJ HOV HIY HVV HJ5 HNY
  go_wp2_with fail
  try rw [hWZ]
  have HE:Hid (o.isSome=is.isSome):=by show _=_;rw [HI2.out]
  exact bodyPost_ret (v:=.tuple #[.agg #[.int .i64 yn,.int .u64 ys,.int .i64 yt,.bool yl,.slice yp yo.length yc],.bool is.isSome]) (by rw [←HE.out];simp [results,Tryz.results94,go_sem,g0,g1,g2,g3,g4]) rfl HFIN.out
 | some r =>
  have HI2:=hid (HIY.out.2 r vp vcap ov rfl HOV.out)
  obtain ⟨WZ,hWZ⟩:∃WZ,(((((w5.setCell ⟨Q+1,0,none⟩ (.int .i64 (yn+1))).setCell ⟨Q+1,1,none⟩ (.int .u64 0)).setCell ⟨Q+1,2,none⟩ (.int .i64 0)).setCell ⟨Q+1,3,none⟩ (.bool (liveW (some r)))).setCell ⟨Q+1,4,none⟩ (.slice vp ov.length vcap))=WZ:=⟨_,rfl⟩
  obtain ⟨hbz,fz⟩:=put_ver hz ⟨yn+1,0,0,liveW (some r),vp,vcap,ov⟩ WZ hWZ
  have g0:WZ.cell? ⟨Q+1,0,none⟩=some (.int .i64 (yn+1)):=cz hbz
  have g1:WZ.cell? ⟨Q+1,1,none⟩=some (.int .u64 0):=cz hbz
  have g2:WZ.cell? ⟨Q+1,2,none⟩=some (.int .i64 0):=cz hbz
  have g3:WZ.cell? ⟨Q+1,3,none⟩=some (.bool (liveW (some r))):=cz hbz
  have g4:WZ.cell? ⟨Q+1,4,none⟩=some (.slice vp ov.length vcap):=cz hbz
  have HFIN:=hid (vans_box (o:=some (Vx.ver ⟨yn+1,0,0,liveW (some r),vp,vcap,ov⟩)) (x:=⟨yn+1,0,0,liveW (some r),vp,vcap,ov⟩) HV.out HB5.out (B:=Q+1) (by have:=HQQ.out;omega) (by have:=HSZ.out;omega) rfl HOJ.out fz)
  rw [←HI2.out] at HFIN
  simp only [encVx,Vx.sl] at HFIN
  obtain ⟨hy0,hy1⟩:=HNY.out
  have HE:Hid (is.isSome=true):=by show _=_;rw [HI2.out];rfl
  rw [HE.out] at HFIN
  clear hbz fz hz hx5 HOJ HOV HIY HVV HJ5 HNY HI2
  go_wp2_with fail
  try rw [hWZ]
  exact bodyPost_ret (v:=.tuple #[.agg #[.int .i64 (yn+1),.int .u64 0,.int .i64 0,.bool (liveW (some r)),.slice vp ov.length vcap],.bool true]) (by simp [results,Tryz.results94,go_sem,g0,g1,g2,g3,g4]) rfl HFIN.out
end
section
open Go.RowKit
theorem fitP_sort {p:List Tm} (hm:mayM p=0) (hf:FitM p):FitM (sortM p)∧FitP (sortM p):=by
 have h1:=(mayM_zero hm).1
 have h2:=sortM_len p
 have q:FitM (sortM p):=⟨by unfold maxLen;omega,fun x hx=>hf.2 x (((sortM_spec p).2 x).1 hx)⟩
 exact ⟨q,q,by omega⟩
def MkPost (W:World) (g:Nat) (mk:Mk) (e:Ending) (w':World):Prop:=∃m' w1,e=.returned (.tuple #[])∧Below W.heap.size W w1∧MOwn W.heap.size w1 m'∧m'.mk'=mk∧w'=(w1.setCell ⟨g,4,none⟩ m'.ksl).setCell ⟨g,5,none⟩ m'.rsl
set_option maxHeartbeats 4000000 in
set_option maxRecDepth 100000 in
theorem xmark_any {W:World} {g:Nat} {m:Mx} (x4:W.cell? ⟨g,4,none⟩=some m.ksl) (x5:W.cell? ⟨g,5,none⟩=some m.rsl) (hz:∀j,W.frozen? ⟨g,j,none⟩=false) (hm:MIn W m) (hw:LotM m) (k:Ky) :
  Calls Tryz.prog 93 #[.pointer (some ⟨g,0,none⟩),.agg #[.string k.1,.string k.2]] W fun e w'=>MkPost W g (keyM m.mk' k) e w':=by
 obtain ⟨V,hV⟩:∃V,W.alloc (.cells #[.string k.1,.string k.2] 39)=V:=⟨_,rfl⟩
 obtain ⟨M,hM⟩:∃M,W.heap.size=M:=⟨_,rfl⟩
 have h1:V.heap[M]? = some (.cells #[.string k.1,.string k.2] 39 (0,0)):=by rw [←hV,←hM];exact heap_alloc_new W _
 have hb:Below W.heap.size W V:=by rw [←hV];exact (Below.refl _ _).alloc (Nat.le_refl _) _
 have hsz:V.heap.size=M+1:=by rw [←hV,←hM];simp
 have hgl:g<W.heap.size:=cell_block x4
 have HS:Hid (∀W',Below V.heap.size V W'→W'.cell? ⟨M,0,none⟩=some (.string k.1)∧W'.cell? ⟨M,1,none⟩=some (.string k.2)):=fun W' hb'=>by
  have q:=(hb'.block M (by omega)).trans h1
  exact ⟨by rw [Lib.cell_of_heap q];rfl,by rw [Lib.cell_of_heap q];rfl⟩
 have HG:Hid (∀W',Below V.heap.size V W'→W'.cell? ⟨g,4,none⟩=some m.ksl∧W'.cell? ⟨g,5,none⟩=some m.rsl∧W'.frozen? ⟨g,4,none⟩=false∧W'.frozen? ⟨g,5,none⟩=false):=fun W' hb'=>by
  have q:Below W.heap.size W W':=bel_then hb hb.size hb'
  exact ⟨(q.cell hgl).trans x4,(q.cell hgl).trans x5,(q.frozen hgl).trans (hz 4),(q.frozen hgl).trans (hz 5)⟩
 have HK:=hid fun n=>mkey12_any m k (V.drewN n) (hm.on (bel_drewN hb n)) hw
 have HB:=hid hb
 obtain ⟨c0,c1⟩:=HS.out V (Below.refl _ _)
 obtain ⟨c4,c5,_,_⟩:=HG.out V (Below.refl _ _)
 obtain ⟨MK,hMK⟩:∃MK,keyM m.mk' k=MK:=⟨_,rfl⟩
 rw [hMK] at HK ⊢
 obtain ⟨ka,kb⟩:=k
 obtain ⟨mkp,mkc,mks,mrp,mrc,mrs⟩:=m
 simp only [Mx.ksl,Mx.rsl,encMx] at *
 have HMG:Hid (M≠g):=by show M≠g;omega
 clear x4 x5 hz hm hw h1 hb hMK hgl
 go_enter Tryz.func93,Tryz.ntmps93
 go_upto_region 1 with fail
 try rw [hV]
 try rw [hM]
 refine wp_region_held_drew (S:=fun w'=>w'.cell? ⟨M,0,none⟩=some (.string ka)∧w'.cell? ⟨M,1,none⟩=some (.string kb)) (by kernel_rfl) ⟨c0,c1⟩ (fun hHeld=>?_)
 refine tkv 0 (.pointer (some ⟨g,0,none⟩)) hHeld ?_
 simp only [Act.put,sz]
 refine tkv 1 (.pointer (some ⟨g,0,none⟩)) hHeld ?_
 simp only [Act.put,sz]
 refine tkv 2 (.pointer (some ⟨g,0,none⟩)) hHeld ?_
 simp only [Act.put,sz]
 refine tkv 3 (.pointer (some ⟨g,4,none⟩)) hHeld ?_
 simp only [Act.put,sz]
 refine tkv 5 (.agg #[.string ka,.string kb]) hHeld ?_
 simp only [Act.put,sz]
 clear hHeld
 refine wpAnyH_ready (rs:=[4]) (by kernel_rfl) (by simp) ?_
 refine AllReadyH.cons (at_drop0 rfl) (fun K hK=>?_) AllReadyH.nil
 rw [if_pos (by rfl)]
 go_simp
 go_wp2_with fail
 refine hK.out _ _ (⟨c0,c1⟩) (fun hHeld=>?_)
 clear hK K
 try simp only [Act.put,sz]
 clear hHeld c0 c1 c4 c5
 refine wpAnyH_ready (rs:=[6]) (by kernel_rfl) (by simp) ?_
 refine AllReadyH.cons (at_drop0 rfl) (fun K hK=>?_) AllReadyH.nil
 rw [if_pos (by rfl)]
 go_simp
 refine (HK.out 1).mono ?_
 rintro e1 w1 ⟨m',rfl,hmo,hmk,hb1⟩
 have hbv:Below V.heap.size V w1:=bel_then (bel_drewN (Below.refl V.heap.size V) 1) (by simp) hb1
 have hS1:=HS.out w1 hbv
 obtain ⟨d4,d5,f4,f5⟩:=HG.out w1 hbv
 have HFIN:Hid (MkPost W g MK (.returned (.tuple #[])) ((w1.setCell ⟨g,4,none⟩ m'.ksl).setCell ⟨g,5,none⟩ m'.rsl)):=⟨m',w1,rfl,bel_then HB.out HB.out.size hbv,hmo.weak (by show _≤V.heap.size;omega),hmk,rfl⟩
 obtain ⟨WZ,hWZ⟩:∃WZ,(w1.setCell ⟨g,4,none⟩ m'.ksl).setCell ⟨g,5,none⟩ m'.rsl=WZ:=⟨_,rfl⟩
 have hSz:WZ.cell? ⟨M,0,none⟩=some (.string ka)∧WZ.cell? ⟨M,1,none⟩=some (.string kb):=by
  have f:Fr (fun b=>b=g) w1 WZ:=by
   rw [←hWZ]
   exact (fr_set5 w1 g 4 _).then (fr_set5 _ g 5 _) fun k hk=>Or.inl hk
  exact ⟨f.cell hS1.1 HMG.out,f.cell hS1.2 HMG.out⟩
 rw [hWZ] at HFIN
 clear hb1 hbv hmo hmk HK HS HG
 obtain ⟨nkp,nkc,nks,nrp,nrc,nrs⟩:=m'
 simp only [Mx.ksl,Mx.rsl,encMx] at *
 go_wp2_with fail
 refine hK.out _ _ hS1 (fun hHeld=>?_)
 clear hK K
 try simp only [Act.put,sz]
 refine tkv 7 (.pointer (some ⟨g,0,none⟩)) hHeld ?_
 simp only [Act.put,sz]
 refine tkv 8 (.pointer (some ⟨g,4,none⟩)) hHeld ?_
 simp only [Act.put,sz]
 clear hHeld
 refine wpAnyH_ready (rs:=[9]) (by kernel_rfl) (by simp) ?_
 refine AllReadyH.cons (at_drop0 rfl) (fun K hK=>?_) AllReadyH.nil
 rw [if_pos (by rfl)]
 go_simp
 go_wp2_with fail
 try rw [hWZ]
 refine hK.out _ _ hSz (fun hHeld=>?_)
 clear hK K
 try simp only [Act.put,sz]
 refine wpAnyH_done (by kernel_rfl) ?_ _
 go_wp2_with fail
 go_end0
 exact HFIN.out
set_option maxHeartbeats 4000000 in
set_option maxRecDepth 100000 in
theorem xrange_any {W:World} {g:Nat} {m:Mx} (x4:W.cell? ⟨g,4,none⟩=some m.ksl) (x5:W.cell? ⟨g,5,none⟩=some m.rsl) (hz:∀j,W.frozen? ⟨g,j,none⟩=false) (hm:MIn W m) (hw:LotM m) (typ:ByteArray) (v:Value) (p:List Tm) (hv:KM.Is W v p) (hp:FitM p) (hmay:mayM p=0) :
  Calls Tryz.prog 96 #[.pointer (some ⟨g,0,none⟩),.string typ,v] W fun e w'=>MkPost W g (rangeM m.mk' (typ,sortM p)) e w':=by
 have hgl:g<W.heap.size:=cell_block x4
 have HN:=hid (pnorm_any v p W hv hp)
 have HANS:Hid (ansM p=sortM p):=by show _=_;unfold ansM;rw [if_pos hmay]
 have HFP:=hid (fitP_sort hmay hp)
 have HM:=hid hm
 have HW:=hid hw
 have HG:Hid (∀W',Below W.heap.size W W'→W'.cell? ⟨g,4,none⟩=some m.ksl∧W'.cell? ⟨g,5,none⟩=some m.rsl∧W'.frozen? ⟨g,4,none⟩=false∧W'.frozen? ⟨g,5,none⟩=false):=fun W' q =>
  ⟨(q.cell hgl).trans x4,(q.cell hgl).trans x5,(q.frozen hgl).trans (hz 4),(q.frozen hgl).trans (hz 5)⟩
 obtain ⟨a,l,cc,rfl⟩:∃a l cc,v=.slice a l cc:=by
  obtain ⟨a,cc,rfl,_⟩:=hv
  exact ⟨a,_,cc,rfl⟩
 obtain ⟨MK,hMK⟩:∃MK,rangeM m.mk' (typ,sortM p)=MK:=⟨_,rfl⟩
 rw [hMK]
 have HMK0:=hid hMK
 clear x4 x5 hz hm hw hv hp hmay hgl hMK
 go_enter Tryz.func96,Tryz.ntmps96
 go_wp2_with fail
 refine HN.out.mono ?_
 rintro e1 w1 ⟨⟨u,rfl,hu⟩,hb1⟩
 rw [HANS.out] at hu
 obtain ⟨up,uc,rfl⟩:∃up uc,u=.slice up (sortM p).length uc:=by
  obtain ⟨q,c,e,_⟩:=Kind.own_is hu
  exact ⟨q,c,e⟩
 obtain ⟨c4,c5,_,_⟩:=HG.out w1 hb1
 have HR:=hid (mrange12_any m ⟨typ,up,uc,sortM p⟩ w1 (HM.out.on hb1) HW.out ⟨Kind.own_is hu,HFP.out.2⟩)
 have HB1:=hid hb1
 have HMK:Hid (rangeM m.mk' (Rx.rg ⟨typ,up,uc,sortM p⟩)=MK):=HMK0.out
 obtain ⟨mkp,mkc,mks,mrp,mrc,mrs⟩:=m
 simp only [Mx.ksl,Mx.rsl,encMx,Rx.sl] at *
 clear hu hb1 HN HM HMK0
 go_wp2_with fail
 refine HR.out.mono ?_
 rintro e2 w2 ⟨m',rfl,hmo,hmk,hb2⟩
 have hbv:Below W.heap.size W w2:=bel_then HB1.out HB1.out.size hb2
 obtain ⟨d4,d5,f4,f5⟩:=HG.out w2 hbv
 have HFIN:Hid (MkPost W g MK (.returned (.tuple #[])) ((w2.setCell ⟨g,4,none⟩ m'.ksl).setCell ⟨g,5,none⟩ m'.rsl)):=⟨m',w2,rfl,hbv,hmo.weak HB1.out.size,hmk.trans HMK.out,rfl⟩
 clear hb2 hbv hmo hmk HR HG c4 c5
 obtain ⟨nkp,nkc,nks,nrp,nrc,nrs⟩:=m'
 simp only [Mx.ksl,Mx.rsl,encMx] at *
 go_wp2_with fail
 go_end0
 exact HFIN.out
end
section
open Go.RowKit
structure Mid (n0 nr:Nat) (W:World) (s:Ps) (c:Nat→Nat) (s':Ps) (c':Nat→Nat) (w:World):Prop where
 prg:PrgB n0 w s' c'
 fit:FitS nr s'
 h:s'.h=s.h
 gs:s'.xs.map Px.g=s.xs.map Px.g
 fr:Fr (fun k=>c k≠0) W w
 lab:∀k,k<W.heap.size→c' k=c k
def StepN (n0 nr:Nat) (W:World) (h:Nat) (gs:List Nat) (c:Nat→Nat) (S':Sv) (N:Nat) (w':World):Prop :=
 ∃c',StoP n0 nr w' h gs S' c'∧Fr (fun k=>c k≠0) W w'∧(∀k,k<W.heap.size→c' k=c k)∧W.heap.size≤N∧∀k,N≤k→c' k=0
theorem StepN.step {n0 nr:Nat} {W:World} {h:Nat} {gs:List Nat} {c:Nat→Nat} {S':Sv} {N:Nat} {w':World} (x:StepN n0 nr W h gs c S' N w'):StepP n0 nr W h gs c S' w':=by
 obtain ⟨c',h1,h2,h3,_⟩:=x
 exact ⟨c',h1,h2,h3⟩
section
variable {n0 nr:Nat} {W:World} {s s':Ps} {c c':Nat→Nat} {w:World}
theorem Mid.start {nr':Nat} (x:PrgB n0 W s c) (f:FitS nr s) (hn:nr≤nr') {w:World} (hb:Below W.heap.size W w):Mid n0 nr' W s c s c w:=⟨x.on hb,f.mono hn,rfl,rfl,Fr.of_below hb,fun _ _=>rfl⟩
theorem Mid.on {w':World} (m:Mid n0 nr W s c s' c' w) (hb:Below w.heap.size w w'):Mid n0 nr W s c s' c' w' :=
 ⟨m.prg.on hb,m.fit,m.h,m.gs,m.fr.then (Fr.of_below (P:=fun _=>False) hb) fun _ k=>k.elim,m.lab⟩
theorem Mid.box {w':World} {B:Nat} (m:Mid n0 nr W s c s' c' w) (f:Fr (fun k=>k=B) w w') (hB:c' B=0) (hW:W.heap.size≤B):Mid n0 nr W s c s' c' w' :=
 ⟨m.prg.fr f fun k _ hk=>by rw [hk];exact hB,m.fit,m.h,m.gs,m.fr.then f fun k hk=>Or.inr (by rw [hk];exact hW),m.lab⟩
theorem Mid.sto (m:Mid n0 nr W s c s' c' w):StoP n0 nr w s.h (s.xs.map Px.g) s'.sv c':=⟨s',m.prg,m.fit,m.h,m.gs,rfl⟩
theorem Mid.step (m:Mid n0 nr W s c s' c' w) {S':Sv} (e:s'.sv=S'):StepP n0 nr W s.h (s.xs.map Px.g) c S' w:=by
 rw [←e]
 exact ⟨c',m.sto,m.fr,m.lab⟩
theorem Mid.stepN (m:Mid n0 nr W s c s' c' w) {S':Sv} (e:s'.sv=S') {N:Nat} (hN:W.heap.size≤N) (h0:∀k,N≤k→c' k=0):StepN n0 nr W s.h (s.xs.map Px.g) c S' N w:=by
 rw [←e]
 exact ⟨c',m.sto,m.fr,m.lab,hN,h0⟩
theorem PrgB.xat (x:PrgB n0 W s c) {i:Nat} {y:Px} (hy:s.xs[i]? = some y) (he:y.ended=false):XAt W y.g y.snap y.id s.h y.gw y.m.ksl y.m.rsl s.hd s.hs s.hc s.hq s.ht s.vers:=by
 obtain ⟨hi,rfl⟩:=List.getElem?_eq_some_iff.1 hy
 have h:=(x.txo i hi).1
 rw [encPx_open s.h he] at h
 exact ⟨h,x.obj.1⟩
theorem PrgB.wrt (x:PrgB n0 W s c) {i:Nat} {y:Px} (hy:s.xs[i]? = some y) (he:y.ended=false):∃B,PrgW n0 W B y.gw y.L∧∀k,B k→c k=8+3 * i:=by
 obtain ⟨hi,rfl⟩:=List.getElem?_eq_some_iff.1 hy
 exact x.txw i hi he
theorem PrgB.mrk (x:PrgB n0 W s c) {i:Nat} {y:Px} (hy:s.xs[i]? = some y) (he:y.ended=false):RMk n0 W y.m∧∀k,BlkM15 y.m k→c k=9+3 * i:=by
 obtain ⟨hi,rfl⟩:=List.getElem?_eq_some_iff.1 hy
 exact x.txm i hi he
theorem PrgB.endis (x:PrgB n0 W s c) {i:Nat} {y:Px} (hy:s.xs[i]? = some y):EndIs (.pointer (some ⟨y.g,0,none⟩)) y.ended W:=by
 obtain ⟨hi,rfl⟩:=List.getElem?_eq_some_iff.1 hy
 cases he:(s.xs[i]).ended with
 | true=>exact endis_yes (x.xends i hi he).2
 | false=>exact endis_no (x.xcells i hi he).2.2.1
theorem FitS.lot (f:FitS nr s) (hn:nr≤3500000000000) {i:Nat} {y:Px} (hy:s.xs[i]? = some y) (he:y.ended=false):LotM y.m:=by
 obtain ⟨hi,rfl⟩:=List.getElem?_eq_some_iff.1 hy
 obtain ⟨h1,h2,_⟩:=f.marks hi he
 exact ⟨by omega,by omega⟩
theorem set_at {l:List Px} {i:Nat} {y z:Px} (hy:l[i]? = some y):(l.set i z)[i]? = some z:=by
 obtain ⟨hi,_⟩:=List.getElem?_eq_some_iff.1 hy
 simp [hi]
theorem set_gs {l:List Px} {i:Nat} {y z:Px} (hy:l[i]? = some y) (hg:z.g=y.g):(l.set i z).map Px.g=l.map Px.g:=by
 obtain ⟨hi,rfl⟩:=List.getElem?_eq_some_iff.1 hy
 exact set_g l i hi z hg
theorem tx_of {i:Nat} {y:Px} (hy:s.xs[i]? = some y):s.sv.txs[i]? = some y.tx:=by
 obtain ⟨hi,rfl⟩:=List.getElem?_eq_some_iff.1 hy
 exact map_tx hi
theorem setS_self {S:Sv} {i:Nat} {x:Tx} (h:S.txs[i]? = some x):setS S i x=S:=by
 unfold setS
 rw [set_self _ _ _ h]
theorem Mid.mark {V:World} (x:PrgB n0 W s c) (f:FitS nr s) {i:Nat} {y:Px} (hy:s.xs[i]? = some y) (he:y.ended=false) (hb:Below W.heap.size W V) {mk:Mk} {e:Ending} {w':World} (hp:MkPost V y.g mk e w') (h1:mk.1.length≤nr+1) (h2:mk.2.length≤nr+1) (h3:∀k∈mk.1,FitKy12 k) (h4:NrmM mk) :
  ∃m' c',e=.returned (.tuple #[])∧m'.mk'=mk∧Mid n0 (nr+1) W s c { s with xs:=s.xs.set i { y with m:=m' } } c' w'∧(∀k,k<V.heap.size→c' k=c k)∧V.heap.size≤w'.heap.size∧∀k,k<V.heap.size→k≠y.g→w'.heap[k]? = V.heap[k]?:=by
 obtain ⟨hi,rfl⟩:=List.getElem?_eq_some_iff.1 hy
 obtain ⟨m',w1,rfl,hb1,hmo,hmk,rfl⟩:=hp
 obtain ⟨q1,q2⟩:=(x.on hb).marked hi he hb1 hmo _ rfl
 have e1:m'.ks=mk.1:=congrArg Prod.fst hmk
 have e2:m'.rs.map Rx.rg=mk.2:=congrArg Prod.snd hmk
 have e3:m'.rs.length=mk.2.length:=by rw [←e2,List.length_map]
 refine ⟨m',_,rfl,hmk,⟨q1,?_,rfl,set_g _ i hi _ rfl,?_,fun k hk=>lab_old (Nat.lt_of_lt_of_le hk hb.size)⟩,fun k hk=>lab_old hk,q2.size,fun k hk hn=>q2.block k hk hn⟩
 ·refine f.setX hi _ (Nat.le_succ _) ?_ ⟨by rw [e1];exact h1,by rw [e3];exact h2,by rw [e1];exact h3,by rw [hmk];exact h4⟩ rfl rfl rfl (okX_mark (f.okx hi) m'.mk')
  show (s.xs[i]).load+nr≤(s.xs[i]).load+(nr+1)
  omega
 ·refine Fr.then (Fr.of_below hb) q2 fun k hk=>Or.inl ?_
  have:=(x.txo i hi).2.2
  rw [hk,this]
  omega
theorem Mid.key {V:World} (x:PrgB n0 W s c) (f:FitS nr s) (hn:nr≤3500000000000) {i:Nat} {y:Px} (hy:s.xs[i]? = some y) (he:y.ended=false) (hb:Below W.heap.size W V) (k:Ky) (hk:FitKy12 k) :
  Calls Tryz.prog 93 #[.pointer (some ⟨y.g,0,none⟩),.agg #[.string k.1,.string k.2]] V fun e w'=>∃m' c',e=.returned (.tuple #[])∧m'.mk'=keyM y.m.mk' k∧Mid n0 (nr+1) W s c { s with xs:=s.xs.set i { y with m:=m' } } c' w'∧(∀k,k<V.heap.size→c' k=c k)∧V.heap.size≤w'.heap.size∧∀k,k<V.heap.size→k≠y.g→w'.heap[k]? = V.heap[k]?:=by
 have xv:=x.on hb
 have xa:=xv.xat hy he
 obtain ⟨_,_,_,_,x4,x5⟩:=xa.xc
 have hz:∀j,V.frozen? ⟨y.g,j,none⟩=false:=fun j=>Lib.frozen_of_heap xa.x j
 have hm:y.m.ks.length≤nr∧y.m.rs.length≤nr∧(∀k∈y.m.ks,FitKy12 k)∧NrmM y.m.mk':=by
  obtain ⟨hi,rfl⟩:=List.getElem?_eq_some_iff.1 hy
  exact f.marks hi he
 refine (xmark_any x4 x5 hz (xv.mrk hy he).1.inn (f.lot hn hy he) k).mono fun e w' q=>Mid.mark x f hy he hb q ?_ ?_ ?_ ?_
 ·have:=keyM_len y.m.mk' k
  have e:y.m.mk'.1.length=y.m.ks.length:=rfl
  omega
 ·show (y.m.rs.map Rx.rg).length≤_
  rw [List.length_map]
  omega
 ·intro z hz
  rcases keyM_mem hz with rfl|h
  ·exact hk
  ·exact hm.2.2.1 z h
 ·exact nrm_key hm.2.2.2 k
theorem Mid.range {V:World} (x:PrgB n0 W s c) (f:FitS nr s) (hn:nr≤3500000000000) {i:Nat} {y:Px} (hy:s.xs[i]? = some y) (he:y.ended=false) (hb:Below W.heap.size W V) (typ:ByteArray) (v:Value) (p:List Tm) (hv:KM.Is V v p) (hp:FitM p) (hmay:mayM p=0) :
  Calls Tryz.prog 96 #[.pointer (some ⟨y.g,0,none⟩),.string typ,v] V fun e w'=>∃m' c',e=.returned (.tuple #[])∧m'.mk'=rangeM y.m.mk' (typ,sortM p)∧Mid n0 (nr+1) W s c { s with xs:=s.xs.set i { y with m:=m' } } c' w'∧(∀k,k<V.heap.size→c' k=c k)∧V.heap.size≤w'.heap.size∧∀k,k<V.heap.size→k≠y.g→w'.heap[k]? = V.heap[k]?:=by
 have xv:=x.on hb
 have xa:=xv.xat hy he
 obtain ⟨_,_,_,_,x4,x5⟩:=xa.xc
 have hz:∀j,V.frozen? ⟨y.g,j,none⟩=false:=fun j=>Lib.frozen_of_heap xa.x j
 have hm:y.m.ks.length≤nr∧y.m.rs.length≤nr∧(∀k∈y.m.ks,FitKy12 k)∧NrmM y.m.mk':=by
  obtain ⟨hi,rfl⟩:=List.getElem?_eq_some_iff.1 hy
  exact f.marks hi he
 refine (xrange_any x4 x5 hz (xv.mrk hy he).1.inn (f.lot hn hy he) typ v p hv hp hmay).mono fun e w' q=>Mid.mark x f hy he hb q ?_ ?_ ?_ ?_
 ·show y.m.ks.length≤_
  omega
 ·have:=rangeM_len y.m.mk' (typ,sortM p)
  have e:y.m.mk'.2.length=y.m.rs.length:=List.length_map _
  omega
 ·exact hm.2.2.1
 ·refine nrm_range hm.2.2.2 _ ?_
  have h1:=(mayM_zero hmay).1
  have h2:=sortM_len p
  show (sortM p).length≤8
  omega
end
def XsV (n0 nr:Nat) (W:World) (h:Nat) (gs:List Nat) (c:Nat→Nat) (r:Option Vr × Int) (S':Sv) (e:Ending) (w':World):Prop :=
 ∃x N,e=.returned (.tuple #[.agg (encVx x).toArray,.int .i64 r.2])∧x.ver=r.1.getD zeroV∧OwnJ N w' x.sl x.o∧FitX x.o∧StepN n0 nr W h gs c S' N w'
theorem is_may {S:Sv} (h:OkS S) {x:Tx} (hw:OkW x.wr) (k:Ky) {v:Vr} (hv:isS S.D x k=some v):mayB v.val=true:=by
 unfold isS at hv
 split at hv
 ·exact h.may k v (atV_in hv)
 ·next e he =>
  injection hv with hv
  rw [←hv]
  cases e with
  | none=>exact may_nil
  | some val=>exact hw.may _ (getW_mem he) val rfl
end
section
open Go.RowKit
section
variable {n0 nr:Nat} {W:World} {s:Ps} {c:Nat→Nat}
theorem FitS.okw (f:FitS nr s) {i:Nat} {y:Px} (hy:s.xs[i]? = some y):OkX s.D s.floor s.last y.tx:=by
 obtain ⟨hi,rfl⟩:=List.getElem?_eq_some_iff.1 hy
 exact f.okx hi
theorem FitS.mrk (f:FitS nr s) {i:Nat} {y:Px} (hy:s.xs[i]? = some y) (he:y.ended=false):y.m.ks.length≤nr∧y.m.rs.length≤nr∧(∀k∈y.m.ks,FitKy12 k)∧NrmM y.m.mk':=by
 obtain ⟨hi,rfl⟩:=List.getElem?_eq_some_iff.1 hy
 exact f.marks hi he
theorem FitS.lod (f:FitS nr s) {i:Nat} {y:Px} (hy:s.xs[i]? = some y) (he:y.ended=false):s.nv+y.L.length≤nr:=by
 obtain ⟨hi,rfl⟩:=List.getElem?_eq_some_iff.1 hy
 exact f.load hi he
theorem FitS.idb (f:FitS nr s) {i:Nat} {y:Px} (hy:s.xs[i]? = some y) (he:y.ended=false):y.id=(i:Int)+1∧i<nr:=by
 obtain ⟨hi,rfl⟩:=List.getElem?_eq_some_iff.1 hy
 exact ⟨f.ids i hi he,by have:=f.nx;omega⟩
theorem Mid.write {V:World} (x:PrgB n0 W s c) (f:FitS nr s) {i:Nat} {y:Px} (hy:s.xs[i]? = some y) (he:y.ended=false) (hb:Below W.heap.size W V) {B:Nat→Prop} (hw:PrgW n0 V B y.gw y.L) (hB:∀k,B k→c k=8+3 * i) {L':List RowW} {w':World} (ht:STurn n0 V B y.gw L' w') (hL:L'.length≤y.L.length+1) (hok:OkX s.D s.floor s.last ⟨y.snap,y.ended,y.m.mk',L'⟩) :
  ∃c',Mid n0 (nr+1) W s c { s with xs:=s.xs.set i { y with L:=L' } } c' w'∧(∀k,k<V.heap.size→c' k=c k)∧∀k,k<V.heap.size→c k≠8+3 * i→w'.heap[k]? = V.heap[k]?:=by
 obtain ⟨hi,rfl⟩:=List.getElem?_eq_some_iff.1 hy
 obtain ⟨c',h1,h2,h3⟩:=(x.on hb).wrote hi he hw hB ht
 obtain ⟨m1,m2,m3⟩:=f.marks hi he
 refine ⟨c',⟨h1,?_,rfl,set_g _ i hi _ rfl,?_,fun k hk=>h3 k (Nat.lt_of_lt_of_le hk hb.size)⟩,h3,fun k hk hn=>h2.block k hk hn⟩
 ·refine f.setX hi _ (Nat.le_succ _) ?_ ⟨Nat.le_succ_of_le m1,Nat.le_succ_of_le m2,m3⟩ rfl rfl rfl hok
  unfold Px.load
  simp only [he]
  show L'.length+nr≤(s.xs[i]).L.length+(nr+1)
  omega
 ·refine Fr.then (Fr.of_below hb) h2 fun k hk=>Or.inl ?_
  rw [hk]
  omega
end
def XsE (n0 nr:Nat) (W:World) (h:Nat) (gs:List Nat) (c:Nat→Nat) (r:Int) (S':Sv) (e:Ending) (w':World):Prop:=e=.returned (.int .i64 r)∧StepP n0 nr W h gs c S' w'
set_option maxHeartbeats 4000000 in
set_option maxRecDepth 100000 in
theorem xput_any {n0 nr:Nat} {W:World} {s:Ps} {c:Nat→Nat} (x:PrgB n0 W s c) (f:FitS nr s) (hn:nr≤1000000000000) {i:Nat} {y:Px} (hy:s.xs[i]? = some y) (k:Ky) (hk:FitKy12 k) (v:Value) (o:List Fx) (val:List Fld) (hv:IsXs W v o) (hf:FitX o) (hval:o.map Fx.fld=val) :
  Calls Tryz.prog 27 #[.pointer (some ⟨y.g,0,none⟩),.agg #[.string k.1,.string k.2],v] W fun e w'=>XsE n0 (nr+1) W s.h (s.xs.map Px.g) c (writeS y.tx k val).1 (setS s.sv i (writeS y.tx k val).2) e w':=by
 obtain ⟨V,hV⟩:∃V,W.alloc (.cells #[.string k.1,.string k.2] 39)=V:=⟨_,rfl⟩
 obtain ⟨M,hM⟩:∃M,W.heap.size=M:=⟨_,rfl⟩
 have h1:V.heap[M]? = some (.cells #[.string k.1,.string k.2] 39 (0,0)):=by rw [←hV,←hM];exact heap_alloc_new W _
 have hb:Below W.heap.size W V:=by rw [←hV];exact (Below.refl _ _).alloc (Nat.le_refl _) _
 have hsz:V.heap.size=M+1:=by rw [←hV,←hM];simp
 have HB:=hid hb
 have HSZ:=hid hsz
 have c0:V.cell? ⟨M,0,none⟩=some (.string k.1):=cz h1
 have c1:V.cell? ⟨M,1,none⟩=some (.string k.2):=cz h1
 have HE:=hid ((x.on hb).endis hy V (Below.refl _ _))
 have HX:=hid x
 have HF:=hid f
 have HY:=hid hy
 obtain ⟨a,l,cc,rfl⟩:∃a l cc,v=.slice a l cc:=by
  obtain ⟨a,cc,rfl,_⟩:=hv
  exact ⟨a,_,cc,rfl⟩
 cases hE:y.ended with
 | true =>
  have HRR:Hid (writeS y.tx k val=(12,y.tx)):=by
   show _=_
   unfold writeS
   rw [if_pos (show y.tx.ended=true from hE)]
  rw [hE] at HE
  generalize writeS y.tx k val=RS at *
  have HFIN:Hid (XsE n0 (nr+1) W s.h (s.xs.map Px.g) c RS.1 (setS s.sv i RS.2) (.returned (.int .i64 12)) V):=by
   show XsE _ _ _ _ _ _ _ _ _ _
   rw [HRR.out]
   exact ⟨rfl,(Mid.start HX.out HF.out (Nat.le_succ nr) HB.out).step (setS_self (tx_of HY.out)).symm⟩
  obtain ⟨ka,kb⟩:=k
  simp only at *
  generalize y.g=g at *
  clear x f hn hy hk hv hf hval h1 hb hE HX HF HY HRR
  go_enter Tryz.func27,Tryz.ntmps27
  go_wp2_with fail
  refine HE.out.mono ?_
  rintro e1 w1 ⟨rfl,rfl⟩
  go_wp2_with fail
  go_ret
  exact HFIN.out
 | false =>
  have HRR:Hid (writeS y.tx k val=(codePW k val,⟨y.snap,y.ended,y.m.mk',putW y.L k val⟩)):=by
   show _=_
   unfold writeS
   rw [if_neg (show ¬ y.tx.ended=true by show ¬ y.ended=true;rw [hE];decide)]
   rfl
  have hoks:=okX_put (f.okw hy) k val
  rw [HRR.out] at hoks
  have HOK:=hid hoks
  rw [hE] at HE
  have xa:=(x.on hb).xat hy hE
  obtain ⟨_,_,_,x3,_⟩:=xa.xc
  obtain ⟨B,hw,hB⟩:=(x.on hb).wrt hy hE
  have hlod:=f.lod hy hE
  have HP:=hid fun n=>wput_any (n0:=n0) (B:=B) (by obtain ⟨m,F,O,hu⟩:=hw;exact ⟨m,F,O,hu.on (bel_drewN (Below.refl V.heap.size V) n)⟩) (Nat.le_trans (x.on hb).base (by simp)) (by omega) k hk (.slice a l cc) o val (hv.kept (bel_drewN hb n)) hf hval
  have HWR:Hid (∀w',STurn n0 (V.drewN 1) B y.gw (putW y.L k val) w'→StepP n0 (nr+1) W s.h (s.xs.map Px.g) c (setS s.sv i ⟨y.snap,y.ended,y.m.mk',putW y.L k val⟩) w'∧(w'.cell? ⟨M,0,none⟩=some (.string k.1)∧w'.cell? ⟨M,1,none⟩=some (.string k.2)∧w'.cell? ⟨y.g,3,none⟩=some (.pointer (some ⟨y.gw,0,none⟩)))):=fun w' ht=>by
   have hbd:Below W.heap.size W (V.drewN 1):=bel_drewN hb 1
   obtain ⟨c',q1,q2,q3⟩:=Mid.write HX.out HF.out HY.out hE hbd (by obtain ⟨m,F,O,hu⟩:=hw;exact ⟨m,F,O,hu.on (bel_drewN (Below.refl V.heap.size V) 1)⟩) hB ht (putW_len _ k val) HOK.out
   have hM0:c M=0:=HX.out.out M (by omega)
   have hcg:c y.g=7+3 * i:=by
    obtain ⟨hi,rfl⟩:=List.getElem?_eq_some_iff.1 HY.out
    exact (HX.out.txo i hi).2.2
   have e1:w'.heap[M]? = V.heap[M]?:=q3 M (by show M<V.heap.size;omega) (by omega)
   have e2:w'.heap[y.g]? = V.heap[y.g]?:=q3 y.g (cell_block (w:=V) x3) (by omega)
   exact ⟨q1.step (sv_set _ _ _),(World.cell?_of_block (a:=⟨M,0,none⟩) e1).trans c0,(World.cell?_of_block (a:=⟨M,1,none⟩) e1).trans c1,(World.cell?_of_block (a:=⟨y.g,3,none⟩) e2).trans x3⟩
  generalize writeS y.tx k val=RS at *
  obtain ⟨ka,kb⟩:=k
  simp only at *
  obtain ⟨g,hg⟩:∃g,y.g=g:=⟨_,rfl⟩
  obtain ⟨gw,hgw⟩:∃gw,y.gw=gw:=⟨_,rfl⟩
  rw [hg] at HE x3 HWR ⊢
  rw [hgw] at x3 HWR HP
  generalize codePW (ka,kb) val=CD at *
  generalize putW y.L (ka,kb) val=L' at *
  clear x f hn hy hk hv hf hval h1 hb hE HX HF HY HOK hoks xa hw hB hlod hsz
  go_enter Tryz.func27,Tryz.ntmps27
  go_wp2_with fail
  refine HE.out.mono ?_
  rintro e1 w1 ⟨rfl,rfl⟩
  go_upto_region 3 with fail
  refine wp_region_held_drew (S:=fun w'=>w'.cell? ⟨M,0,none⟩=some (.string ka)∧w'.cell? ⟨M,1,none⟩=some (.string kb)∧w'.cell? ⟨g,3,none⟩=some (.pointer (some ⟨gw,0,none⟩))) (by kernel_rfl) ⟨c0,c1,x3⟩ (fun hHeld=>?_)
  refine tkv 0 (.pointer (some ⟨g,0,none⟩)) hHeld ?_
  simp only [Act.put,sz]
  refine tkv 1 (.pointer (some ⟨g,0,none⟩)) hHeld ?_
  simp only [Act.put,sz]
  refine tkv 2 (.pointer (some ⟨g,3,none⟩)) hHeld ?_
  simp only [Act.put,sz]
  refine tkv 3 (.pointer (some ⟨gw,0,none⟩)) hHeld ?_
  simp only [Act.put,sz]
  refine tkv 4 (.agg #[.string ka,.string kb]) hHeld ?_
  simp only [Act.put,sz]
  refine tkv 5 (.slice a l cc) hHeld ?_
  simp only [Act.put,sz]
  clear hHeld
  refine wpAnyH_ready (rs:=[6]) (by kernel_rfl) (by simp) ?_
  refine AllReadyH.cons (at_drop0 rfl) (fun K hK=>?_) AllReadyH.nil
  rw [if_pos (by rfl)]
  go_simp
  refine (HP.out 1).mono ?_
  rintro e2 w2 ⟨rfl,ht⟩
  obtain ⟨q1,hS2⟩:=HWR.out w2 ht
  have HFIN:Hid (XsE n0 (nr+1) W s.h (s.xs.map Px.g) c RS.1 (setS s.sv i RS.2) (.returned (.int .i64 CD)) w2):=by
   show XsE _ _ _ _ _ _ _ _ _ _
   rw [HRR.out]
   exact ⟨rfl,q1⟩
  clear ht q1 HP HWR
  go_wp2_with fail
  refine hK.out _ _ hS2 (fun hHeld=>?_)
  clear hK K
  try simp only [Act.put,sz]
  refine tkv 7 (.int .i64 CD) hHeld ?_
  simp only [Act.put,sz]
  refine wpAnyH_done (by kernel_rfl) ?_ _
  go_wp2_with fail
  go_ret
  exact HFIN.out
def endC (sn:Int):List Value:=[.int .u64 sn,.int .i64 0,.pointer none,.pointer none,.slice none 0 0,.slice none 0 0]
set_option maxHeartbeats 4000000 in
set_option maxRecDepth 100000 in
theorem xend_any {n0:Nat} {W:World} {s:Ps} {c:Nat→Nat} (x:PrgB n0 W s c) {i:Nat} {y:Px} (hy:s.xs[i]? = some y) (he:y.ended=false) (hid:MU.fit y.id) :
  Calls Tryz.prog 89 #[.pointer (some ⟨y.g,0,none⟩)] W fun e w'=>e=.returned (.tuple #[])∧∃c',PrgB n0 w' { s with xs:=s.xs.set i { y with ended:=true },os:=closeQ s.os y.id } c'∧(∀k,k<W.heap.size→c' k=c k)∧Fr (fun k=>c k=4∨c k=7+3 * i) W w':=by
 have xa:=x.xat hy he
 obtain ⟨x0,x1,x2,_⟩:=xa.xc
 obtain ⟨_,_,_,s3,_⟩:=xa.sc
 obtain ⟨B,hq,hB⟩:=x.snp
 have HX:=Go.Proofs.hid x
 have HCL:=Go.Proofs.hid fun n=>pcloseQ_any n0 s.hq s.os s.floor y.id B (W.drewN n) (hq.on (bel_drewN (Below.refl W.heap.size W) n)) hid
 have hcg:c y.g=7+3 * i:=by
  obtain ⟨hi,rfl⟩:=List.getElem?_eq_some_iff.1 hy
  exact (x.txo i hi).2.2
 have hch:c s.h=1:=x.obj.2.2
 have HT:Hid (∀w1,PTurn n0 (W.drewN 1) B s.hq (closeQ s.os y.id) s.floor w1→(w1.cell? ⟨y.g,1,none⟩=some (.int .i64 y.id)∧w1.cell? ⟨y.g,2,none⟩=some (.pointer (some ⟨s.h,0,none⟩))∧w1.cell? ⟨s.h,3,none⟩=some (.pointer (some ⟨s.hq,0,none⟩)))∧w1.heap[y.g]? = some (.cells #[.int .u64 y.snap,.int .i64 y.id,.pointer (some ⟨s.h,0,none⟩),.pointer (some ⟨y.gw,0,none⟩),y.m.ksl,y.m.rsl] 163 (0,0)) ∧
   ∀w',Fr (fun b=>b=y.g) w1 w'→w'.heap[y.g]? = some (.cells (endC y.snap).toArray 163 (0,0))→∃c',PrgB n0 w' { s with xs:=s.xs.set i { y with ended:=true },os:=closeQ s.os y.id } c'∧(∀k,k<W.heap.size→c' k=c k)∧Fr (fun k=>c k=4∨c k=7+3 * i) W w'):=fun w1 ht=>by
  obtain ⟨B',h1,f1,h3⟩:=ht
  have f1':Fr B W w1:=⟨f1.os,f1.tape,f1.output,f1.size,f1.block⟩
  have t:=HX.out.turn (s':={ s with os:=closeQ s.os y.id }) 4 hB f1' (B':=B') h1 (fun k hk=>h3 k hk) (fun q hq'=>by
   unfold partS
   simp only [hq',if_false]
   rfl) fun k hk=>(hq.blk k hk).2
  have hgB:¬ B y.g:=fun e=>by have:=hB _ e;omega
  have hhB:¬ B s.h:=fun e=>by have:=hB _ e;omega
  have xa1:=xa.fr f1' hgB hhB
  refine ⟨⟨xa1.xc.2.1,xa1.xc.2.2.1,xa1.sc.2.2.2.1⟩,xa1.x,fun w' f2 ho=>?_⟩
  obtain ⟨hi,rfl⟩:=List.getElem?_eq_some_iff.1 hy
  refine ⟨_,t.ended (i:=i) hi f2 ?_,fun k hk=>lab_old hk,Fr.then (f1'.mono fun k hk=>Or.inl (hB k hk)) f2 fun k hk=>Or.inl (Or.inr (by rw [hk];exact hcg))⟩
  exact ho
 obtain ⟨s2,hs2⟩:∃s2,({ s with xs:=s.xs.set i { y with ended:=true },os:=closeQ s.os y.id }:Ps)=s2:=⟨_,rfl⟩
 rw [hs2] at HT ⊢
 clear hs2
 obtain ⟨g,hg⟩:∃g,y.g=g:=⟨_,rfl⟩
 rw [hg] at x0 x1 x2 HT ⊢
 generalize y.id=yid at *
 generalize closeQ s.os yid=OS at *
 obtain ⟨h,hh⟩:∃h,s.h=h:=⟨_,rfl⟩
 obtain ⟨q,hqq⟩:∃q,s.hq=q:=⟨_,rfl⟩
 rw [hh,hqq] at s3
 rw [hh] at x2
 rw [hqq] at HCL
 have HT2:Hid (∀w1,PTurn n0 (W.drewN 1) B q OS s.floor w1→(w1.cell? ⟨g,1,none⟩=some (.int .i64 yid)∧w1.cell? ⟨g,2,none⟩=some (.pointer (some ⟨h,0,none⟩))∧w1.cell? ⟨h,3,none⟩=some (.pointer (some ⟨q,0,none⟩)))∧w1.heap[g]? = some (.cells #[.int .u64 y.snap,.int .i64 yid,.pointer (some ⟨h,0,none⟩),.pointer (some ⟨y.gw,0,none⟩),y.m.ksl,y.m.rsl] 163 (0,0)) ∧
   ∀w',Fr (fun b=>b=g) w1 w'→w'.heap[g]? = some (.cells (endC y.snap).toArray 163 (0,0))→∃c',PrgB n0 w' s2 c'∧(∀k,k<W.heap.size→c' k=c k)∧Fr (fun k=>c k=4∨c k=7+3 * i) W w'):=by
  rw [←hqq,←hh]
  exact HT.out
 clear HT x xa hy he hid hq hB hcg hch HX hg
 go_enter Tryz.func89,Tryz.ntmps89
 go_upto_region 0 with fail
 refine wp_region_held_drew (S:=fun w'=>w'.cell? ⟨g,1,none⟩=some (.int .i64 yid)∧w'.cell? ⟨g,2,none⟩=some (.pointer (some ⟨h,0,none⟩))∧w'.cell? ⟨h,3,none⟩=some (.pointer (some ⟨q,0,none⟩))) (by kernel_rfl) ⟨x1,x2,s3⟩ (fun hHeld=>?_)
 refine tkv 0 (.pointer (some ⟨g,0,none⟩)) hHeld ?_
 simp only [Act.put,sz]
 refine tkv 1 (.pointer (some ⟨g,0,none⟩)) hHeld ?_
 simp only [Act.put,sz]
 refine tkv 2 (.pointer (some ⟨g,2,none⟩)) hHeld ?_
 simp only [Act.put,sz]
 refine tkv 3 (.pointer (some ⟨h,0,none⟩)) hHeld ?_
 simp only [Act.put,sz]
 refine tkv 4 (.pointer (some ⟨h,0,none⟩)) hHeld ?_
 simp only [Act.put,sz]
 refine tkv 5 (.pointer (some ⟨h,0,none⟩)) hHeld ?_
 simp only [Act.put,sz]
 refine tkv 6 (.pointer (some ⟨h,3,none⟩)) hHeld ?_
 simp only [Act.put,sz]
 refine tkv 7 (.pointer (some ⟨q,0,none⟩)) hHeld ?_
 simp only [Act.put,sz]
 refine tkv 8 (.pointer (some ⟨g,0,none⟩)) hHeld ?_
 simp only [Act.put,sz]
 refine tkv 9 (.pointer (some ⟨g,0,none⟩)) hHeld ?_
 simp only [Act.put,sz]
 refine tkv 10 (.pointer (some ⟨g,1,none⟩)) hHeld ?_
 simp only [Act.put,sz]
 refine tkv 11 (.int .i64 yid) hHeld ?_
 simp only [Act.put,sz]
 clear hHeld x0 x1 x2 s3
 refine wpAnyH_ready (rs:=[12]) (by kernel_rfl) (by simp) ?_
 refine AllReadyH.cons (at_drop0 rfl) (fun K hK=>?_) AllReadyH.nil
 rw [if_pos (by rfl)]
 go_simp
 refine (HCL.out 1).mono ?_
 rintro e1 w1 ⟨rfl,ht⟩
 obtain ⟨hS1,ho,hfin⟩:=HT2.out w1 ht
 have HFN:=Go.Proofs.hid hfin
 clear hfin ht HT2 HCL
 generalize y.snap=sn at *
 generalize y.gw=gw at *
 obtain ⟨m0,hm⟩:∃m0,y.m=m0:=⟨_,rfl⟩
 rw [hm] at ho
 obtain ⟨mkp,mkc,mks,mrp,mrc,mrs⟩:=m0
 simp only [Mx.ksl,Mx.rsl] at ho
 obtain ⟨WZ,hWZ⟩:∃WZ,(((((w1.setCell ⟨g,0,none⟩ (.int .u64 sn)).setCell ⟨g,1,none⟩ (.int .i64 0)).setCell ⟨g,2,none⟩ (.pointer none)).setCell ⟨g,3,none⟩ (.pointer none)).setCell ⟨g,4,none⟩ (.slice none 0 0)).setCell ⟨g,5,none⟩ (.slice none 0 0)=WZ:=⟨_,rfl⟩
 have hbz:WZ.heap[g]? = some (.cells (endC sn).toArray 163 (0,0)):=by
  rw [←hWZ]
  exact heap_setCell_same _ g 5 _ _ _ (heap_setCell_same _ g 4 _ _ _ (heap_setCell_same _ g 3 _ _ _ (heap_setCell_same _ g 2 _ _ _ (heap_setCell_same _ g 1 _ _ _ (heap_setCell_same _ g 0 _ _ _ ho)))))
 have fz:Fr (fun b=>b=g) w1 WZ:=by
  rw [←hWZ]
  exact (((((fr_set5 w1 g 0 _).then (fr_set5 _ g 1 _) fun k hk=>Or.inl hk).then (fr_set5 _ g 2 _) fun k hk=>Or.inl hk).then (fr_set5 _ g 3 _) fun k hk=>Or.inl hk).then (fr_set5 _ g 4 _) fun k hk=>Or.inl hk).then (fr_set5 _ g 5 _) fun k hk=>Or.inl hk
 have HF2:=Go.Proofs.hid (HFN.out WZ fz hbz)
 have y0:w1.cell? ⟨g,0,none⟩=some (.int .u64 sn):=cz ho
 have y1:w1.cell? ⟨g,1,none⟩=some (.int .i64 yid):=cz ho
 have y2:w1.cell? ⟨g,2,none⟩=some (.pointer (some ⟨h,0,none⟩)):=cz ho
 have y3:w1.cell? ⟨g,3,none⟩=some (.pointer (some ⟨gw,0,none⟩)):=cz ho
 have y4:w1.cell? ⟨g,4,none⟩=some (.slice mkp mks.length mkc):=cz ho
 have y5:w1.cell? ⟨g,5,none⟩=some (.slice mrp mrs.length mrc):=cz ho
 have z0:=Lib.frozen_of_heap ho 0
 have z1:=Lib.frozen_of_heap ho 1
 have z2:=Lib.frozen_of_heap ho 2
 have z3:=Lib.frozen_of_heap ho 3
 have z4:=Lib.frozen_of_heap ho 4
 have z5:=Lib.frozen_of_heap ho 5
 clear hbz fz ho HFN hm
 go_wp2_with fail
 refine hK.out _ _ hS1 (fun hHeld=>?_)
 clear hK K
 try simp only [Act.put,sz]
 refine wpAnyH_done (by kernel_rfl) ?_ _
 clear hS1
 go_wp2_with fail
 try rw [hWZ]
 go_end0
 exact ⟨rfl,HF2.out⟩
end
section
open Go.RowKit
theorem PrgB.stat {n0:Nat} {W:World} {s:Ps} {c:Nat→Nat} (x:PrgB n0 W s c):StAt W s.h s.hd s.hs s.hc s.hq s.ht s.vers:=x.obj.1
section
variable {W:World} {h hd hs hc hq ht:Nat} {vers:Int}
set_option maxRecDepth 100000 in
theorem scountS_any {n0 n:Nat} {D:List RowD} (x:StAt W h hd hs hc hq ht vers) (hD:DirS n0 hd n D W) (hn:n≤2400000000000):Calls Tryz.prog 29 #[.pointer (some ⟨h,0,none⟩)] W fun e w'=>e=.returned (.int .i64 (countD D:Nat))∧Below W.heap.size W w':=by
 have HH:=hid (shas_any x)
 have HL:Hid (∀w',Below W.heap.size W w'→Calls Tryz.prog 91 #[.pointer (some ⟨hd,0,none⟩)] w' fun e w2=>e=.returned (.int .i64 (countD D:Nat))∧Below w'.heap.size w' w2):=fun w' hb=>s_count (hD.on hb) hn
 unfold partsV at HH
 have hfd:=field_parts (some ⟨hd,0,none⟩) (some ⟨hs,0,none⟩) (some ⟨hc,0,none⟩) (some ⟨hq,0,none⟩) (some ⟨ht,0,none⟩)
 clear x hD hn
 generalize countD D=cnt at *
 go_enter Tryz.func29,Tryz.ntmps29
 go_wp2_with fail
 refine HH.out.mono ?_
 rintro e w1 ⟨rfl,hb⟩
 have HB:=hid hb
 have HL2:=hid (HL.out w1 hb)
 clear hb HL
 go_wp2_with fail
 refine HL2.out.mono ?_
 rintro e w2 ⟨rfl,hb2⟩
 have HB2:=hid (bel_then HB.out HB.out.size hb2)
 clear hb2
 go_wp2_with fail
 go_ret
 exact ⟨rfl,HB2.out⟩
set_option maxRecDepth 100000 in
theorem strackedS_any {n0:Nat} {B:Nat→Prop} {t:Tk} (x:StAt W h hd hs hc hq ht vers) (hT:PrgT13 n0 W B ht t):Calls Tryz.prog 44 #[.pointer (some ⟨h,0,none⟩)] W fun e w'=>e=.returned (.int .i64 (t.kept.length:Nat))∧Below W.heap.size W w':=by
 have HH:=hid (shas_any x)
 have HL:Hid (∀w',Below W.heap.size W w'→Calls Tryz.prog 112 #[.pointer (some ⟨ht,0,none⟩)] w' fun e w2=>e=.returned (.int .i64 (t.kept.length:Nat))∧Below w'.heap.size w' w2):=fun w' hb=>by
  obtain ⟨ds,va,last,hm,_⟩:=hT
  exact tlen_any (hm.on hb)
 unfold partsV at HH
 have hfd:=field_parts (some ⟨hd,0,none⟩) (some ⟨hs,0,none⟩) (some ⟨hc,0,none⟩) (some ⟨hq,0,none⟩) (some ⟨ht,0,none⟩)
 clear x hT
 generalize t.kept.length=cnt at *
 go_enter Tryz.func44,Tryz.ntmps44
 go_wp2_with fail
 refine HH.out.mono ?_
 rintro e w1 ⟨rfl,hb⟩
 have HB:=hid hb
 have HL2:=hid (HL.out w1 hb)
 clear hb HL
 go_wp2_with fail
 refine HL2.out.mono ?_
 rintro e w2 ⟨rfl,hb2⟩
 have HB2:=hid (bel_then HB.out HB.out.size hb2)
 clear hb2
 go_wp2_with fail
 go_ret
 exact ⟨rfl,HB2.out⟩
set_option linter.unusedSimpArgs false in
set_option maxHeartbeats 4000000 in
set_option maxRecDepth 100000 in
theorem svisible_any {n0 n:Nat} {D:List RowD} (x:StAt W h hd hs hc hq ht vers) (hD:DirS n0 hd n D W) (k:Ky) (hk:FitK k) (t:Int) :
  Calls Tryz.prog 42 #[.pointer (some ⟨h,0,none⟩),.agg #[.string k.1,.string k.2],.int .u64 t] W fun e w'=>VAns W (atV (ofD D k) t) e w':=by
 obtain ⟨hb0,h1,h2,hsz⟩:=two_boxes5 W #[.string k.1,.string k.2] #[.int .i64 0,.int .u64 0,.int .i64 0,.bool false,.slice none 0 0] 39 46
 obtain ⟨V,hV⟩:∃V,(W.alloc (.cells #[.string k.1,.string k.2] 39)).alloc (.cells #[.int .i64 0,.int .u64 0,.int .i64 0,.bool false,.slice none 0 0] 46)=V:=⟨_,rfl⟩
 obtain ⟨Q,hQ⟩:∃Q,W.heap.size=Q:=⟨_,rfl⟩
 rw [hV] at hb0 h1 h2 hsz
 rw [hQ] at h1 h2 hsz
 have HV:=hid hb0
 have HSZ:Hid (V.heap.size=Q+2):=hsz
 have HQQ:Hid (W.heap.size=Q):=hQ
 have HH2:=hid h2
 have a0:V.cell? ⟨Q,0,none⟩=some (.string k.1):=cz h1
 have a1:V.cell? ⟨Q,1,none⟩=some (.string k.2):=cz h1
 have HS:Hid (∀W',Fr (fun b=>b=Q+1) V W'→W'.cell? ⟨Q,0,none⟩=some (.string k.1)∧W'.cell? ⟨Q,1,none⟩=some (.string k.2)):=fun W' f=>⟨f.cell a0 (by show ¬ Q=Q+1;omega),f.cell a1 (by show ¬ Q=Q+1;omega)⟩
 have HHS:=hid fun n'=>shas_any (W:=V.drewN n') (x.on (bel_drewN hb0 n'))
 have HA:Hid (∀w1,Below V.heap.size V w1→Calls Tryz.prog 110 #[.pointer (some ⟨hd,0,none⟩),.agg #[.string k.1,.string k.2],.int .u64 t] w1 fun e w'=>VAns w1 (atV (ofD D k) t) e w'):=fun w1 hb=>s_at ((hD.on hb0).on hb) k hk t
 have hfd:=field_parts (some ⟨hd,0,none⟩) (some ⟨hs,0,none⟩) (some ⟨hc,0,none⟩) (some ⟨hq,0,none⟩) (some ⟨ht,0,none⟩)
 obtain ⟨o,ho⟩:∃o,atV (ofD D k) t=o:=⟨_,rfl⟩
 rw [ho] at HA ⊢
 obtain ⟨ka,kb⟩:=k
 simp only at *
 unfold partsV at HHS
 clear x hD hk h1 h2 hb0 hsz ho
 go_enter Tryz.func42,Tryz.ntmps42
 go_upto_region 1 with fail
 try rw [hV]
 try rw [hQ]
 refine wp_region_held_drew (S:=fun w'=>w'.cell? ⟨Q,0,none⟩=some (.string ka)∧w'.cell? ⟨Q,1,none⟩=some (.string kb)) (by kernel_rfl) ⟨a0,a1⟩ (fun hHeld=>?_)
 refine tkv 0 (.pointer (some ⟨h,0,none⟩)) hHeld ?_
 simp only [Act.put,sz]
 refine tkv 3 (.agg #[.string ka,.string kb]) hHeld ?_
 simp only [Act.put,sz]
 refine tkv 4 (.int .u64 t) hHeld ?_
 simp only [Act.put,sz]
 clear hHeld a0 a1
 refine wpAnyH_ready (rs:=[1]) (by kernel_rfl) (by simp) ?_
 refine AllReadyH.cons (at_drop0 rfl) (fun K hK=>?_) AllReadyH.nil
 rw [if_pos (by rfl)]
 go_simp
 refine (HHS.out 1).mono ?_
 rintro e0 w0 ⟨rfl,hb0⟩
 have hbv0:Below V.heap.size V w0:=bel_then (bel_drewN (Below.refl V.heap.size V) 1) (by simp) hb0
 have hS0:=HS.out w0 (Fr.of_below hbv0)
 have HA2:=hid (HA.out w0 hbv0)
 have HB0:=hid hbv0
 clear hb0 hbv0 HA HHS
 go_wp2_with fail
 refine hK.out _ _ hS0 (fun hHeld=>?_)
 clear hK K
 try simp only [Act.put,sz]
 refine tkv 2 (.pointer (some ⟨hd,0,none⟩)) hHeld ?_
 simp only [Act.put,sz]
 clear hHeld hS0
 refine wpAnyH_ready (rs:=[5]) (by kernel_rfl) (by simp) ?_
 refine AllReadyH.cons (at_drop0 rfl) (fun K hK=>?_) AllReadyH.nil
 rw [if_pos (by rfl)]
 go_simp
 refine HA2.out.mono ?_
 rintro e1 w1 ⟨z,rfl,hv,hj,hb1⟩
 have hbv:Below V.heap.size V w1:=bel_then HB0.out HB0.out.size hb1
 have HB1:=hid hbv
 have hz:w1.heap[Q+1]? = some (.cells #[.int .i64 0,.int .u64 0,.int .i64 0,.bool false,.slice none 0 0] 46 (0,0)):=(hbv.block _ (by have:=HSZ.out;omega)).trans HH2.out
 have hS1:=HS.out w1 (Fr.of_below hbv)
 have HJ:Hid (OwnJ V.heap.size w1 z.sl z.o):=own_weakJ hj HB0.out.size
 have HVV:=hid hv
 clear hb1 hbv hj hv HH2 hfd
 obtain ⟨xn,xs,xt,xl,xp,xc,xo⟩:=z
 simp only [encVx,Vx.sl] at *
 go_wp2_with fail
 refine hK.out _ _ hS1 (fun hHeld=>?_)
 clear hK K
 try simp only [Act.put,sz]
 clear hS1
 refine tkv 6 (.agg #[.int .i64 xn,.int .u64 xs,.int .i64 xt,.bool xl,.slice xp xo.length xc]) hHeld ?_
 simp only [Act.put,sz]
 refine tkv 7 (.bool o.isSome) hHeld ?_
 simp only [Act.put,sz]
 obtain ⟨WZ,hWZ⟩:∃WZ,(((((w1.setCell ⟨Q+1,0,none⟩ (.int .i64 xn)).setCell ⟨Q+1,1,none⟩ (.int .u64 xs)).setCell ⟨Q+1,2,none⟩ (.int .i64 xt)).setCell ⟨Q+1,3,none⟩ (.bool xl)).setCell ⟨Q+1,4,none⟩ (.slice xp xo.length xc))=WZ:=⟨_,rfl⟩
 obtain ⟨hbz,fz⟩:=put_ver hz ⟨xn,xs,xt,xl,xp,xc,xo⟩ WZ hWZ
 have y0:w1.cell? ⟨Q+1,0,none⟩=some (.int .i64 0):=cz hz
 have z0:=Lib.frozen_of_heap hz 0
 have y1:w1.cell? ⟨Q+1,1,none⟩=some (.int .u64 0):=cz hz
 have z1:=Lib.frozen_of_heap hz 1
 have y2:w1.cell? ⟨Q+1,2,none⟩=some (.int .i64 0):=cz hz
 have z2:=Lib.frozen_of_heap hz 2
 have y3:w1.cell? ⟨Q+1,3,none⟩=some (.bool false):=cz hz
 have z3:=Lib.frozen_of_heap hz 3
 have y4:w1.cell? ⟨Q+1,4,none⟩=some (.slice none 0 0):=cz hz
 have z4:=Lib.frozen_of_heap hz 4
 have g0:WZ.cell? ⟨Q+1,0,none⟩=some (.int .i64 xn):=cz hbz
 have g1:WZ.cell? ⟨Q+1,1,none⟩=some (.int .u64 xs):=cz hbz
 have g2:WZ.cell? ⟨Q+1,2,none⟩=some (.int .i64 xt):=cz hbz
 have g3:WZ.cell? ⟨Q+1,3,none⟩=some (.bool xl):=cz hbz
 have g4:WZ.cell? ⟨Q+1,4,none⟩=some (.slice xp xo.length xc):=cz hbz
 have HFIN:=hid (vans_box (x:=⟨xn,xs,xt,xl,xp,xc,xo⟩) HV.out HB1.out (B:=Q+1) (by have:=HQQ.out;omega) (by have:=HSZ.out;omega) HVV.out HJ.out fz)
 have hSz:=HS.out WZ (Fr.then (Fr.of_below HB1.out) fz fun k hk=>Or.inl hk)
 clear hbz fz hz HS
 refine wpAnyH_ready (rs:=[8]) (by kernel_rfl) (by simp) ?_
 refine AllReadyH.cons (at_drop0 rfl) (fun K hK=>?_) AllReadyH.nil
 rw [if_pos (by rfl)]
 go_simp
 go_wp2_with fail
 try rw [hWZ]
 refine hK.out _ _ hSz (fun hHeld=>?_)
 clear hK K
 try simp only [Act.put,sz]
 clear hSz
 refine tkv 9 (.bool o.isSome) hHeld ?_
 simp only [Act.put,sz]
 refine wpAnyH_done (by kernel_rfl) ?_ _
 go_wp2_with fail
 exact bodyPost_ret (v:=.tuple #[.agg #[.int .i64 xn,.int .u64 xs,.int .i64 xt,.bool xl,.slice xp xo.length xc],.bool o.isSome]) (by simp [results,Tryz.results42,go_sem,g0,g1,g2,g3,g4]) rfl HFIN.out
end
end
section
open Go.RowKit
section
variable {n0:Nat} {W:World} {s:Ps} {c:Nat→Nat}
theorem PrgB.dirT (x:PrgB n0 W s c) {m:Nat} {G:Ky→Cm} (hM:DirM n0 W s.hd m s.nv G s.D) (hB:∀k,BlkD s.hd m G s.D k→c k=2) {n':Nat} {D':List RowD} {w':World} (ht:TurnD n0 W s.hd m G s.D n' D' w') :
  ∃c',PrgB n0 w' { s with nv:=n',D:=D' } c'∧(∀k,k<W.heap.size→c' k=c k)∧Fr (fun k=>c k=2) W w':=by
 obtain ⟨G',h1,h2,h3⟩:=ht
 refine ⟨_,x.turn (s':={ s with nv:=n',D:=D' }) 2 hB h3 (B':=BlkD s.hd m G' D') ⟨m,G',h1,fun _=>Iff.rfl⟩ h2 (fun q hq=>?_) fun k hk=>(hM.blk k hk).2,fun k hk=>lab_old hk,h3.mono hB⟩
 unfold partS
 simp only [hq,if_false]
 rfl
theorem PrgB.snpT (x:PrgB n0 W s c) {B:Nat→Prop} (hq:PrgQ n0 W B s.hq s.os s.floor) (hB:∀k,B k→c k=4) {os':Sn} {fl':Int} {w':World} (ht:PTurn n0 W B s.hq os' fl' w') :
  ∃c',PrgB n0 w' { s with os:=os',floor:=fl' } c'∧(∀k,k<W.heap.size→c' k=c k)∧Fr (fun k=>c k=4) W w':=by
 obtain ⟨B',h1,h2,h3⟩:=ht
 refine ⟨_,x.turn (s':={ s with os:=os',floor:=fl' }) 4 hB h2 (B':=B') h1 h3 (fun q hq=>?_) fun k hk=>(hq.blk k hk).2,fun k hk=>lab_old hk,h2.mono hB⟩
 unfold partS
 simp only [hq,if_false]
 rfl
theorem PrgB.trkT (x:PrgB n0 W s c) {B:Nat→Prop} (hq:PrgT13 n0 W B s.ht s.tk) (hB:∀k,B k→c k=3) {t':Tk} {w':World} (ht:YTurn PrgT13 n0 W B s.ht t' w') :
  ∃c',PrgB n0 w' { s with tk:=t' } c'∧(∀k,k<W.heap.size→c' k=c k)∧Fr (fun k=>c k=3) W w':=by
 obtain ⟨B',h1,h2,h3⟩:=ht
 refine ⟨_,x.turn (s':={ s with tk:=t' }) 3 hB h2 (B':=B') h1 h3 (fun q hq=>?_) fun k hk=>((good_trk n0 s.ht s.tk).blk hq k hk).2,fun k hk=>lab_old hk,h2.mono hB⟩
 unfold partS
 simp only [hq,if_false]
 rfl
theorem PrgB.cntT (x:PrgB n0 W s c) (t:Int):PrgB n0 (W.setCell ⟨s.hs,0,none⟩ (.int .u64 t)) { s with last:=t } c∧Fr (fun k=>c k=5) W (W.setCell ⟨s.hs,0,none⟩ (.int .u64 t)):=by
 obtain ⟨h1,h2,h3⟩:=x.cnt
 have f:=fr_set5 W s.hs 0 (.int .u64 t)
 refine ⟨x.step f (fun _ _=>rfl) (fun k hk=>x.out k (Nat.le_trans f.size hk)) fun p=>?_,f.mono fun k hk=>by rw [hk];exact h3⟩
 by_cases e:p=5
 ·subst e
  exact Or.inl ⟨fun k=>k=s.hs,⟨heap_setCell_same W s.hs 0 _ _ _ h1,h2,fun _=>Iff.rfl⟩,fun k hk=>by rw [hk];exact h3⟩
 ·refine Or.inr ⟨?_,fun k _ hk=>by rw [hk,h3];exact fun e'=>e e'.symm⟩
  unfold partS
  simp only [e,if_false]
  rfl
theorem PrgB.push (x:PrgB n0 W s c) {w1 w2:World} (hb:Below W.heap.size W w1) {B:Nat→Prop} {gw:Nat} (hw:PrgW n0 w1 B gw []) (hB:∀k,B k→W.heap.size≤k) (id:Int)
  (hb2:Below w1.heap.size w1 w2) (ho:w2.heap[w1.heap.size]? = some (.cells #[.int .u64 s.last,.int .i64 id,.pointer (some ⟨s.h,0,none⟩),.pointer (some ⟨gw,0,none⟩),.slice none 0 0,.slice none 0 0] 163 (0,0))) :
  ∃c',PrgB n0 w2 { s with xs:=s.xs++[⟨w1.heap.size,s.last,id,false,⟨none,0,[],none,0,[]⟩,gw,[]⟩] } c'∧∀k,k<W.heap.size→c' k=c k:=by
 have hbW:Below W.heap.size W w2:=bel_then hb hb.size hb2
 have hw1:PrgW n0 w2 B gw []:=(good_wrt n0 gw []).fr (W:=w1) (B:=B) hw (Fr.of_below (P:=fun _=>False) hb2) fun _ _ k=>k
 have hbase:=x.base
 have hs1:=hb.size
 have hlt2:w1.heap.size<w2.heap.size:=(Array.getElem?_eq_some_iff.1 ho).1
 let n:=s.xs.length
 let c':Nat→Nat:=fun k=>if k<W.heap.size then c k else if k=w1.heap.size then 7+3 * n else @ite _ (B k) (Classical.propDecidable _) (8+3 * n) 0
 have hBl:∀k,B k→k<w1.heap.size:=fun k hk=>((good_wrt n0 gw []).blk (W:=w1) (B:=B) hw k hk).2
 have hc:∀k,k<W.heap.size→c' k=c k:=fun k hk=>if_pos hk
 have hcg:c' w1.heap.size=7+3 * n:=by
  show (if w1.heap.size<W.heap.size then _ else _)=_
  rw [if_neg (by omega),if_pos rfl]
 have hcB:∀k,B k→c' k=8+3 * n:=fun k hk=>by
  have h1:=hBl k hk
  have h2:=hB k hk
  show (if k<W.heap.size then _ else _)=_
  rw [if_neg (by omega),if_neg (by omega),if_pos hk]
 refine ⟨c',x.step (P:=fun _=>False) (Fr.of_below hbW) hc (fun k hk=>?_) fun p=>?_,hc⟩
 ·show (if k<W.heap.size then _ else _)=_
  rw [if_neg (by omega),if_neg (by omega),if_neg fun h=>by have:=hBl k h;omega]
 ·by_cases h7:p<7
  ·refine Or.inr ⟨?_,fun k _ h=>h.elim⟩
   unfold partS
   simp only [h7,if_true]
   rfl
  ·by_cases e:(p-7) / 3=n
   ·obtain ⟨r,hr,hpr⟩:∃r,r<3∧p=7+3 * n+r:=⟨(p-7) % 3,Nat.mod_lt _ (by omega),by omega⟩
    subst hpr
    left
    have hxn:(s.xs++[⟨w1.heap.size,s.last,id,false,⟨none,0,[],none,0,[]⟩,gw,[]⟩])[n]? = some ⟨w1.heap.size,s.last,id,false,⟨none,0,[],none,0,[]⟩,gw,[]⟩:=by simp [n]
    rw [part_tx n0 { s with xs:=s.xs++[⟨w1.heap.size,s.last,id,false,⟨none,0,[],none,0,[]⟩,gw,[]⟩] } hr hxn]
    match r,hr with
    | 0,_=>exact ⟨fun k=>k=w1.heap.size,⟨ho,by show n0≤w1.heap.size;omega,fun _=>Iff.rfl⟩,fun k hk=>by rw [hk];exact hcg⟩
    | 1,_=>exact ⟨B,hw1,fun k hk=>by rw [hcB k hk];omega⟩
    | 2,_=>exact ⟨fun _=>False,⟨rmk_nil n0 w2,fun k=>⟨fun h=>h.elim,by rintro (h|h|⟨_,h,_⟩)<;>cases h⟩⟩,fun k h=>h.elim⟩
   ·refine Or.inr ⟨?_,fun k _ h=>h.elim⟩
    unfold partS
    rw [if_neg (by omega),if_neg (by omega),if_neg (by omega),if_neg (by omega),if_neg (by omega),if_neg (by omega),if_neg (by omega),if_neg (by omega),if_neg (by omega),if_neg (by omega),if_neg (by omega),if_neg (by omega),if_neg (by omega),if_neg (by omega)]
    show (match (s.xs++[_])[(p-7) / 3]? with|none=>noneP|some x=>partX n0 s.h x ((p-7) % 3))=_
    rcases Nat.lt_or_ge ((p-7) / 3) n with h|h
    ·rw [List.getElem?_append_left h]
     rfl
    ·rw [List.getElem?_append_right h,List.getElem?_eq_none (l:=s.xs) h,List.getElem?_eq_none (by simp;omega)]
theorem FitS.push {nr:Nat} (f:FitS nr s) (g gw:Nat):FitS (nr+1) { s with xs:=s.xs++[⟨g,s.last,(s.xs.length:Int)+1,false,⟨none,0,[],none,0,[]⟩,gw,[]⟩],os:=s.os++[some s.last] }:=by
 have hsv:({ s with xs:=s.xs++[⟨g,s.last,(s.xs.length:Int)+1,false,⟨none,0,[],none,0,[]⟩,gw,[]⟩],os:=s.os++[some s.last] }:Ps).sv=beginS s.sv:=by
  unfold Ps.sv beginS
  simp only [List.map_append]
  rfl
 refine ⟨?_,?_,fun x hx he=>?_,fun j hj he=>?_,?_,by rw [hsv];exact okS_begin f.ok,f.v4⟩
 ·show s.nv+((s.xs++[_]).map Px.load).sum≤nr+1
  rw [List.map_append,List.sum_append]
  have:=f.room
  show s.nv+((s.xs.map Px.load).sum+(0+0))≤nr+1
  omega
 ·show (s.xs++[_]).length≤nr+1
  rw [List.length_append]
  have:=f.nx
  simp
  omega
 ·rcases List.mem_append.1 hx with hx|hx
  ·have q:=f.mks x hx he
   exact ⟨Nat.le_succ_of_le q.1,Nat.le_succ_of_le q.2.1,q.2.2⟩
  ·rw [List.mem_singleton.1 hx]
   exact ⟨Nat.zero_le _,Nat.zero_le _,(fun k hk=>by cases hk),nrm_nil⟩
 ·have hj':j<(s.xs++[_]).length:=hj
  by_cases e:j<s.xs.length
  ·have e1:(s.xs++[(⟨g,s.last,(s.xs.length:Int)+1,false,⟨none,0,[],none,0,[]⟩,gw,[]⟩:Px)])[j]'hj=s.xs[j]:=List.getElem_append_left e
   have he':((s.xs++[(⟨g,s.last,(s.xs.length:Int)+1,false,⟨none,0,[],none,0,[]⟩,gw,[]⟩:Px)])[j]'hj).ended=false:=he
   rw [e1] at he'
   show ((s.xs++[_])[j]'hj).id=_
   rw [e1]
   exact f.ids j e he'
  ·have hjl:j=s.xs.length:=by
    have:j<(s.xs++[(⟨g,s.last,(s.xs.length:Int)+1,false,⟨none,0,[],none,0,[]⟩,gw,[]⟩:Px)]).length:=hj
    rw [List.length_append] at this
    simp at this
    omega
   subst hjl
   show ((s.xs++[_])[s.xs.length]'hj).id=_
   simp
 ·rw [hsv]
  show s.os++[some s.last]=openS (beginS s.sv)
  rw [f.os]
  unfold openS beginS
  rw [List.map_append]
  rfl
end
set_option maxHeartbeats 4000000 in
set_option maxRecDepth 100000 in
theorem sbegin_any {n0 nr:Nat} {W:World} {s:Ps} {c:Nat→Nat} (x:PrgB n0 W s c) (f:FitS nr s) (hn:nr≤2000000000000) :
  Calls Tryz.prog 22 #[.pointer (some ⟨s.h,0,none⟩)] W fun e w'=>∃g,e=.returned (.pointer (some ⟨g,0,none⟩))∧W.heap.size≤g∧StepP n0 (nr+1) W s.h (s.xs.map Px.g++[g]) c (beginS s.sv) w':=by
 obtain ⟨s0,s1,_,s3,_,_⟩:=x.cells
 obtain ⟨B,hq,hB⟩:=x.snp
 have hlen:s.os.length=s.xs.length:=by rw [f.os,openS_len];show (s.xs.map Px.tx).length=_;rw [List.length_map]
 have hnx:=f.nx
 have hfl:s.floor≤s.last:=f.ok.fl
 have HL:=hid (slast_any (W:=W) (g:=s.hs) (t:=s.last) x.cnt.1)
 have HO:=hid (popenQ_any n0 s.hq s.os s.floor s.last B W hq (by omega))
 have hoq:openQ s.os s.floor s.last=(((s.xs.length:Int)+1,0),s.os++[some s.last]):=by
  unfold openQ
  rw [if_neg (by omega),hlen]
 rw [hoq] at HO
 have HT:Hid (∀w1,PTurn n0 W B s.hq (s.os++[some s.last]) s.floor w1→n0≤w1.heap.size∧∀(w2 w3:World) (B2:Nat→Prop) (gw:Nat),PrgW n0 w2 B2 gw []→Below w1.heap.size w1 w2→(∀k,B2 k→w1.heap.size≤k)→w2.alloc (.cells #[.int .u64 s.last,.int .i64 ((s.xs.length:Int)+1),.pointer (some ⟨s.h,0,none⟩),.pointer (some ⟨gw,0,none⟩),.slice none 0 0,.slice none 0 0] 163)=w3→W.heap.size≤w2.heap.size∧StepP n0 (nr+1) W s.h (s.xs.map Px.g++[w2.heap.size]) c (beginS s.sv) w3):=fun w1 ht=>by
  obtain ⟨c1,q1,q2,q3⟩:=x.snpT hq hB ht
  refine ⟨q1.base,fun w2 w3 B2 gw hw hb2 hB2 h3=>⟨Nat.le_trans q3.size hb2.size,?_⟩⟩
  have ho3:w3.heap[w2.heap.size]? = some (.cells #[.int .u64 s.last,.int .i64 ((s.xs.length:Int)+1),.pointer (some ⟨s.h,0,none⟩),.pointer (some ⟨gw,0,none⟩),.slice none 0 0,.slice none 0 0] 163 (0,0)):=by rw [←h3];exact heap_alloc_new w2 _
  have hb3:Below w2.heap.size w2 w3:=by rw [←h3];exact (Below.refl _ _).alloc (Nat.le_refl _) _
  obtain ⟨c2,r1,r2⟩:=q1.push hb2 hw hB2 ((s.xs.length:Int)+1) hb3 ho3
  refine ⟨c2,⟨_,r1,f.push w2.heap.size gw,rfl,?_,?_⟩,?_,fun k hk=>(r2 k (Nat.lt_of_lt_of_le hk q3.size)).trans (q2 k hk)⟩
  ·show (s.xs++[_]).map Px.g=_
   rw [List.map_append]
   rfl
  ·unfold Ps.sv beginS
   simp only [List.map_append]
   rfl
  ·refine Fr.then (q3.mono fun k hk=>by omega) (Fr.of_below (P:=fun _=>False) (bel_then hb2 hb2.size hb3)) fun _ h=>h.elim
 have HNEW:Hid (∀w1,n0≤w1.heap.size→Calls Tryz.prog 76 #[] w1 fun e w'=>∃B g,e=.returned (.pointer (some ⟨g,0,none⟩))∧PrgW n0 w' B g []∧Below w1.heap.size w1 w'∧∀k,B k→w1.heap.size≤k):=fun w1 h=>wnew_any n0 w1 h
 have hch:c s.h=1:=x.obj.2.2
 have HK:Hid (∀w1,PTurn n0 W B s.hq (s.os++[some s.last]) s.floor w1→True):=fun _ _=>True.intro
 generalize beginS s.sv=S' at *
 generalize s.os++[some s.last]=OS at *
 generalize s.xs.map Px.g=gs at *
 generalize (s.xs.length:Int)+1=ID at *
 generalize s.floor=FL at *
 generalize s.last=LA at *
 generalize s.h=h at *
 generalize s.hs=hs at *
 generalize s.hq=q at *
 clear x f hq hB hlen hnx hfl hoq hn hch HK
 go_enter Tryz.func22,Tryz.ntmps22
 go_wp2_with fail
 refine HL.out.mono ?_
 rintro e1 w1 ⟨rfl,rfl⟩
 go_wp2_with fail
 refine HO.out.mono ?_
 rintro e2 w2 ⟨rfl,ht⟩
 obtain ⟨hbase,hfin⟩:=HT.out w2 ht
 have HFN:=hid hfin
 have HN2:=hid (HNEW.out w2 hbase)
 clear ht hfin hbase HT HO HL HNEW
 go_wp2_with fail
 refine HN2.out.mono ?_
 rintro e3 w3 ⟨B2,gw,rfl,hw,hb,hB2⟩
 obtain ⟨w4,hw4⟩:∃w4,w3.alloc (.cells #[.int .u64 LA,.int .i64 ID,.pointer (some ⟨h,0,none⟩),.pointer (some ⟨gw,0,none⟩),.slice none 0 0,.slice none 0 0] 163)=w4:=⟨_,rfl⟩
 have HF2:=hid (HFN.out w3 w4 B2 gw hw hb hB2 hw4)
 clear hw hb hB2 HFN HN2
 go_wp2_with fail
 try rw [hw4]
 go_ret
 exact ⟨w3.heap.size,rfl,HF2.out.1,HF2.out.2⟩
set_option maxHeartbeats 4000000 in
set_option maxRecDepth 100000 in
theorem svacuum_any {n0 nr:Nat} {W:World} {s:Ps} {c:Nat→Nat} (x:PrgB n0 W s c) (f:FitS nr s) (hn:nr≤2000000000000) :
  Calls Tryz.prog 45 #[.pointer (some ⟨s.h,0,none⟩)] W fun e w'=>e=.returned (.tuple #[.int .u64 (leastS s.sv),.int .i64 (goneD s.D (leastS s.sv):Nat)])∧StepP n0 nr W s.h (s.xs.map Px.g) c (vacS s.sv) w':=by
 have hlen:s.os.length=s.xs.length:=by rw [f.os,openS_len];show (s.xs.map Px.tx).length=_;rw [List.length_map]
 have hnx:=f.nx
 have hL:leastQ s.os s.last=leastS s.sv:=by rw [f.os];rfl
 have hge:s.floor≤leastS s.sv:=leastS_ge f.ok
 have hrq:raiseQ s.os s.floor (leastS s.sv)=(0,leastS s.sv):=by
  rw [←hL,raise_least,if_neg (by rw [hL];omega)]
 have HH:=hid (shas_any x.stat)
 have HLE:Hid (∀w1,Below W.heap.size W w1→Calls Tryz.prog 114 #[partsV s.hd s.hs s.hc s.hq s.ht] w1 fun e w'=>e=.returned (.int .u64 (leastS s.sv))∧Below w1.heap.size w1 w'):=fun w1 hb=>by
  obtain ⟨B,hq,_⟩:=(x.on hb).snp
  rw [←hL]
  exact sleast_any (x.on hb).cnt.1 hq (by omega)
 have HRA:Hid (∀w1,Below W.heap.size W w1→Calls Tryz.prog 113 #[.pointer (some ⟨s.hq,0,none⟩),.int .u64 (leastS s.sv)] w1 fun e w'=>e=.returned (.int .i64 0)∧(∃c',PrgB n0 w' { s with os:=s.os,floor:=leastS s.sv } c'∧(∀k,k<w1.heap.size→c' k=c k)∧Fr (fun k=>c k=4) w1 w')):=fun w1 hb=>by
  obtain ⟨B,hq,hB⟩:=(x.on hb).snp
  refine (praiseQ_any n0 s.hq s.os s.floor (leastS s.sv) B w1 hq (by omega)).mono fun e w' q=>?_
  rw [hrq] at q
  exact ⟨q.1,(x.on hb).snpT hq hB q.2⟩
 have HFL:Hid (∀(w1:World) (c':Nat→Nat),PrgB n0 w1 { s with os:=s.os,floor:=leastS s.sv } c'→Calls Tryz.prog 73 #[.pointer (some ⟨s.hq,0,none⟩)] w1 fun e w'=>e=.returned (.int .u64 (leastS s.sv))∧w'=w1):=fun w1 c' y=>by
  obtain ⟨B,hq,_⟩:=y.snp
  exact pfloorQ_any n0 s.hq s.os (leastS s.sv) B w1 hq
 have HPR:Hid (∀(w0 w1:World) (c':Nat→Nat),Below W.heap.size W w0→PrgB n0 w1 { s with os:=s.os,floor:=leastS s.sv } c'→(∀k,k<w0.heap.size→c' k=c k)→Fr (fun k=>c k=4) w0 w1→Calls Tryz.prog 115 #[.pointer (some ⟨s.hd,0,none⟩),.int .u64 (leastS s.sv)] w1 fun e w'=>e=.returned (.int .i64 (goneD s.D (leastS s.sv):Nat))∧StepP n0 nr W s.h (s.xs.map Px.g) c (vacS s.sv) w'):=fun w0 w1 c' hb y hc fr=>by
  obtain ⟨m,G,hM,hB⟩:=y.dir
  refine (dprune_any hM (by have:=f.room;show s.nv≤_;omega) (leastS s.sv)).mono fun e w' q=>⟨q.1,?_⟩
  obtain ⟨c2,r1,r2,r3⟩:=y.dirT hM hB q.2
  refine ⟨c2,⟨_,r1,?_,rfl,rfl,rfl⟩,?_,fun k hk=>(r2 k (Nat.lt_of_lt_of_le hk (Nat.le_trans hb.size fr.size))).trans (hc k (Nat.lt_of_lt_of_le hk hb.size))⟩
  ·exact ⟨f.room,f.nx,f.mks,f.ids,f.os,okS_vac f.ok,f.v4⟩
  ·refine Fr.then (Fr.then (Fr.of_below hb) (fr.mono (Q:=fun k=>c k=4) fun k hk=>hk) fun k hk=>Or.inl (by omega)) r3 fun k hk=>?_
   by_cases e:k<W.heap.size
   ·refine Or.inl ?_
    have:=hc k (Nat.lt_of_lt_of_le e hb.size)
    omega
   ·exact Or.inr (by omega)
 obtain ⟨PB,hPB⟩:∃PB:World→(Nat→Nat)→Prop,(fun w1 c'=>PrgB n0 w1 { s with os:=s.os,floor:=leastS s.sv } c')=PB:=⟨_,rfl⟩
 have HRA2:Hid (∀w1,Below W.heap.size W w1→Calls Tryz.prog 113 #[.pointer (some ⟨s.hq,0,none⟩),.int .u64 (leastS s.sv)] w1 fun e w'=>e=.returned (.int .i64 0)∧(∃c',PB w' c'∧(∀k,k<w1.heap.size→c' k=c k)∧Fr (fun k=>c k=4) w1 w')):=by rw [←hPB];exact HRA.out
 have HFL2:Hid (∀(w1:World) (c':Nat→Nat),PB w1 c'→Calls Tryz.prog 73 #[.pointer (some ⟨s.hq,0,none⟩)] w1 fun e w'=>e=.returned (.int .u64 (leastS s.sv))∧w'=w1):=by rw [←hPB];exact HFL.out
 have HPR2:Hid (∀(w0 w1:World) (c':Nat→Nat),Below W.heap.size W w0→PB w1 c'→(∀k,k<w0.heap.size→c' k=c k)→Fr (fun k=>c k=4) w0 w1→Calls Tryz.prog 115 #[.pointer (some ⟨s.hd,0,none⟩),.int .u64 (leastS s.sv)] w1 fun e w'=>e=.returned (.int .i64 (goneD s.D (leastS s.sv):Nat))∧StepP n0 nr W s.h (s.xs.map Px.g) c (vacS s.sv) w'):=by rw [←hPB];exact HPR.out
 have HO:Hid (∀k,W.heap.size≤k→c k=0):=x.out
 clear HRA HFL HPR hPB hrq hge hL hlen hnx x f hn
 generalize vacS s.sv=S' at *
 generalize goneD s.D (leastS s.sv)=GN at *
 generalize leastS s.sv=LE at *
 generalize s.xs.map Px.g=gs at *
 generalize s.h=h at *
 generalize s.hd=hd at *
 generalize s.hs=hs at *
 generalize s.hc=hc at *
 generalize s.hq=hq at *
 generalize s.ht=ht at *
 unfold partsV at *
 go_enter Tryz.func45,Tryz.ntmps45
 go_wp2_with fail
 refine HH.out.mono ?_
 rintro e1 w1 ⟨rfl,hb1⟩
 obtain ⟨M,hM⟩:∃M,w1.heap.size=M:=⟨_,rfl⟩
 obtain ⟨V,hV⟩:∃V,w1.alloc (.cells #[.pointer none,.pointer none,.pointer none,.pointer none,.pointer none] 144)=V:=⟨_,rfl⟩
 have h1:V.heap[M]? = some (.cells #[.pointer none,.pointer none,.pointer none,.pointer none,.pointer none] 144 (0,0)):=by rw [←hV,←hM];exact heap_alloc_new w1 _
 obtain ⟨WZ,hWZ⟩:∃WZ,((((V.setCell ⟨M,0,none⟩ (.pointer (some ⟨hd,0,none⟩))).setCell ⟨M,1,none⟩ (.pointer (some ⟨hs,0,none⟩))).setCell ⟨M,2,none⟩ (.pointer (some ⟨hc,0,none⟩))).setCell ⟨M,3,none⟩ (.pointer (some ⟨hq,0,none⟩))).setCell ⟨M,4,none⟩ (.pointer (some ⟨ht,0,none⟩))=WZ:=⟨_,rfl⟩
 have hbz:WZ.heap[M]? = some (.cells #[.pointer (some ⟨hd,0,none⟩),.pointer (some ⟨hs,0,none⟩),.pointer (some ⟨hc,0,none⟩),.pointer (some ⟨hq,0,none⟩),.pointer (some ⟨ht,0,none⟩)] 144 (0,0)):=by
  rw [←hWZ]
  exact heap_setCell_same _ M 4 _ _ _ (heap_setCell_same _ M 3 _ _ _ (heap_setCell_same _ M 2 _ _ _ (heap_setCell_same _ M 1 _ _ _ (heap_setCell_same _ M 0 _ _ _ h1))))
 have hbW:Below W.heap.size W WZ:=by
  have q1:Below w1.heap.size w1 WZ:=by
   rw [←hWZ,hM]
   have q0:Below M w1 V:=by rw [←hV,←hM];exact (Below.refl _ _).alloc (Nat.le_refl _) _
   exact ((((q0.setCell (by simp) _).setCell (by simp) _).setCell (by simp) _).setCell (by simp) _).setCell (by simp) _
  exact bel_then hb1 hb1.size q1
 have y0:V.cell? ⟨M,0,none⟩=some (.pointer none):=cz h1
 have y1:V.cell? ⟨M,1,none⟩=some (.pointer none):=cz h1
 have y2:V.cell? ⟨M,2,none⟩=some (.pointer none):=cz h1
 have y3:V.cell? ⟨M,3,none⟩=some (.pointer none):=cz h1
 have y4:V.cell? ⟨M,4,none⟩=some (.pointer none):=cz h1
 have z0:=Lib.frozen_of_heap h1 0
 have z1:=Lib.frozen_of_heap h1 1
 have z2:=Lib.frozen_of_heap h1 2
 have z3:=Lib.frozen_of_heap h1 3
 have z4:=Lib.frozen_of_heap h1 4
 have HSB:Hid (∀w':World,w'.heap[M]? = WZ.heap[M]?→w'.cell? ⟨M,0,none⟩=some (.pointer (some ⟨hd,0,none⟩))∧w'.cell? ⟨M,1,none⟩=some (.pointer (some ⟨hs,0,none⟩))∧w'.cell? ⟨M,2,none⟩=some (.pointer (some ⟨hc,0,none⟩))∧w'.cell? ⟨M,3,none⟩=some (.pointer (some ⟨hq,0,none⟩))∧w'.cell? ⟨M,4,none⟩=some (.pointer (some ⟨ht,0,none⟩))):=fun w' e=>by
  have q:=e.trans hbz
  refine ⟨?_,?_,?_,?_,?_⟩<;>rw [Lib.cell_of_heap q]<;>rfl
 have hS0:=HSB.out WZ rfl
 have HMW:Hid (W.heap.size≤M∧M<WZ.heap.size):=⟨by rw [←hM];exact hb1.size,(Array.getElem?_eq_some_iff.1 hbz).1⟩
 have HBW:=hid hbW
 have HLE2:=hid fun n=>HLE.out (WZ.drewN n) (bel_drewN hbW n)
 clear hb1 h1 hbz hbW HH HLE
 go_upto_region 2 with fail
 try rw [hM]
 try rw [hV]
 try rw [hWZ]
 clear y0 y1 y2 y3 y4 z0 z1 z2 z3 z4 hWZ hV
 refine wp_region_held_drew (S:=fun w'=>w'.cell? ⟨M,0,none⟩=some (.pointer (some ⟨hd,0,none⟩))∧w'.cell? ⟨M,1,none⟩=some (.pointer (some ⟨hs,0,none⟩))∧w'.cell? ⟨M,2,none⟩=some (.pointer (some ⟨hc,0,none⟩))∧w'.cell? ⟨M,3,none⟩=some (.pointer (some ⟨hq,0,none⟩))∧w'.cell? ⟨M,4,none⟩=some (.pointer (some ⟨ht,0,none⟩))) (by kernel_rfl) hS0 (fun hHeld=>?_)
 refine tkv 0 (.pointer (some ⟨M,3,none⟩)) hHeld ?_
 simp only [Act.put,sz]
 refine tkv 1 (.pointer (some ⟨hq,0,none⟩)) hHeld ?_
 simp only [Act.put,sz]
 refine tkv 2 (.agg #[.pointer (some ⟨hd,0,none⟩),.pointer (some ⟨hs,0,none⟩),.pointer (some ⟨hc,0,none⟩),.pointer (some ⟨hq,0,none⟩),.pointer (some ⟨ht,0,none⟩)]) hHeld ?_
 simp only [Act.put,sz]
 clear hHeld hS0
 refine wpAnyH_ready (rs:=[3]) (by kernel_rfl) (by simp) ?_
 refine AllReadyH.cons (at_drop0 rfl) (fun K hK=>?_) AllReadyH.nil
 rw [if_pos (by rfl)]
 go_simp
 refine (HLE2.out 1).mono ?_
 rintro e2 w2 ⟨rfl,hb2⟩
 have hb2':Below WZ.heap.size WZ w2:=bel_then (bel_drewN (Below.refl WZ.heap.size WZ) 1) (by simp) hb2
 have hS2:=HSB.out w2 (hb2'.block M HMW.out.2)
 have HB2:=hid (bel_then HBW.out HBW.out.size hb2')
 have HRA3:=hid (HRA2.out w2 HB2.out)
 have HM2:Hid (w2.heap[M]? = WZ.heap[M]?∧M<w2.heap.size):=⟨hb2'.block M HMW.out.2,Nat.lt_of_lt_of_le HMW.out.2 hb2'.size⟩
 clear hb2 hb2' HLE2 HRA2
 go_wp2_with fail
 refine hK.out _ _ hS2 (fun hHeld=>?_)
 clear hK K
 try simp only [Act.put,sz]
 clear hHeld hS2
 refine wpAnyH_ready (rs:=[4]) (by kernel_rfl) (by simp) ?_
 refine AllReadyH.cons (at_drop0 rfl) (fun K hK=>?_) AllReadyH.nil
 rw [if_pos (by rfl)]
 go_simp
 refine HRA3.out.mono ?_
 rintro e3 w3 ⟨rfl,c',q1,q2,q3⟩
 have hm3:w3.heap[M]? = WZ.heap[M]?:=(q3.block M HM2.out.2 (by show ¬ c M=4;have:=HO.out M HMW.out.1;omega)).trans HM2.out.1
 have hS3:=HSB.out w3 hm3
 have HFL3:=hid (HFL2.out w3 c' q1)
 have HPR3:=hid (HPR2.out w2 w3 c' HB2.out q1 q2 q3)
 clear q1 q2 q3 HRA3 HFL2 HPR2 hm3
 go_wp2_with fail
 refine hK.out _ _ hS3 (fun hHeld=>?_)
 clear hK K
 try simp only [Act.put,sz]
 refine wpAnyH_done (by kernel_rfl) ?_ _
 obtain ⟨t0,_,_,t3,_⟩:=hS3
 go_wp2_with fail
 refine HFL3.out.mono ?_
 rintro e4 w4 ⟨rfl,rfl⟩
 go_wp2_with fail
 refine HPR3.out.mono ?_
 rintro e5 w5 ⟨rfl,q⟩
 have HQ:=hid q
 clear q HPR3
 go_wp2_with fail
 go_ret2
 exact ⟨rfl,HQ.out⟩
end
section
open Go.RowKit
def ChgPost (W:World) (ch:Ch) (e:Ending) (w':World):Prop:=∃z:Cx,e=.returned (.agg (encCx z).toArray)∧COwn W.heap.size w' z∧z.ch=ch∧Below W.heap.size W w'
theorem put_chg {w:World} {X:Nat} (hz:w.heap[X]? = some (.cells #[.string ⟨#[]⟩,.string ⟨#[]⟩,.bool false,.slice none 0 0,.bool false,.slice none 0 0] 105 (0,0))) (z:Cx) (WZ:World) (hWZ:(((((w.setCell ⟨X,0,none⟩ (.string z.a)).setCell ⟨X,1,none⟩ (.string z.b)).setCell ⟨X,2,none⟩ (.bool z.wl)).setCell ⟨X,3,none⟩ (.slice z.wp z.wo.length z.wc)).setCell ⟨X,4,none⟩ (.bool z.il)).setCell ⟨X,5,none⟩ (.slice z.ip z.io.length z.ic)=WZ) :
  WZ.heap[X]? = some (.cells #[.string z.a,.string z.b,.bool z.wl,.slice z.wp z.wo.length z.wc,.bool z.il,.slice z.ip z.io.length z.ic] 105 (0,0))∧Fr (fun b=>b=X) w WZ:=by
 rw [←hWZ]
 exact ⟨heap_setCell_same _ X 5 _ _ _ (heap_setCell_same _ X 4 _ _ _ (heap_setCell_same _ X 3 _ _ _ (heap_setCell_same _ X 2 _ _ _ (heap_setCell_same _ X 1 _ _ _ (heap_setCell_same _ X 0 _ _ _ hz))))),(((((fr_set5 w X 0 _).then (fr_set5 _ X 1 _) fun k hk=>Or.inl hk).then (fr_set5 _ X 2 _) fun k hk=>Or.inl hk).then (fr_set5 _ X 3 _) fun k hk=>Or.inl hk).then (fr_set5 _ X 4 _) fun k hk=>Or.inl hk).then (fr_set5 _ X 5 _) fun k hk=>Or.inl hk⟩
set_option linter.unusedSimpArgs false in
set_option maxHeartbeats 8000000 in
set_option maxRecDepth 100000 in
theorem xchange_any {n0 n:Nat} {D:List RowD} {W:World} {g:Nat} {snap id:Int} {h gw:Nat} {ks rs:Value} {hd hs hc hq ht:Nat} {vers:Int} {B:Nat→Prop} {L:List RowW} (x:XAt W g snap id h gw ks rs hd hs hc hq ht vers) (hD:DirS n0 hd n D W) (hw:PrgW n0 W B gw L) (k:Ky) (hk:FitK k) :
  Calls Tryz.prog 106 #[.pointer (some ⟨g,0,none⟩),.agg #[.string k.1,.string k.2]] W fun e w'=>ChgPost W ⟨k,((oldS D snap k).getD zeroV).live,((oldS D snap k).getD zeroV).val,liveW (getW L k),valW (getW L k)⟩ e w':=by
 obtain ⟨hb0,h1,h2,hsz⟩:=two_boxes5 W #[.string k.1,.string k.2] #[.string ⟨#[]⟩,.string ⟨#[]⟩,.bool false,.slice none 0 0,.bool false,.slice none 0 0] 39 105
 obtain ⟨V,hV⟩:∃V,(W.alloc (.cells #[.string k.1,.string k.2] 39)).alloc (.cells #[.string ⟨#[]⟩,.string ⟨#[]⟩,.bool false,.slice none 0 0,.bool false,.slice none 0 0] 105)=V:=⟨_,rfl⟩
 obtain ⟨Q,hQ⟩:∃Q,W.heap.size=Q:=⟨_,rfl⟩
 rw [hV] at hb0 h1 h2 hsz
 rw [hQ] at h1 h2 hsz
 have HV:=hid hb0
 have HSZ:Hid (V.heap.size=Q+2):=hsz
 have HQQ:Hid (W.heap.size=Q):=hQ
 have HH2:=hid h2
 have xv:=x.on hb0
 obtain ⟨_,_,_,x3,_⟩:=xv.xc
 have a0:V.cell? ⟨Q,0,none⟩=some (.string k.1):=cz h1
 have a1:V.cell? ⟨Q,1,none⟩=some (.string k.2):=cz h1
 have HS:Hid (∀W',Below V.heap.size V W'→W'.cell? ⟨Q,0,none⟩=some (.string k.1)∧W'.cell? ⟨Q,1,none⟩=some (.string k.2)∧W'.cell? ⟨g,3,none⟩=some (.pointer (some ⟨gw,0,none⟩))):=fun W' hb =>
  ⟨(hb.cell (cell_block a0)).trans a0,(hb.cell (cell_block a1)).trans a1,(hb.cell (cell_block x3)).trans x3⟩
 have HBE:=hid (xbefore_any xv (hD.on hb0) k hk)
 have HGE:Hid (∀W',Below V.heap.size V W'→Calls Tryz.prog 158 #[.pointer (some ⟨gw,0,none⟩),.agg #[.string k.1,.string k.2]] W' fun e w'=>GetPostP W' L k e w'):=fun W' hb=>wget_any (n0:=n0) (B:=B) (by obtain ⟨m,F,O,hu⟩:=hw;exact ⟨m,F,O,(hu.on hb0).on hb⟩) k hk
 have HM1:Hid (∀y:Vx,y.ver=(oldS D snap k).getD zeroV→mayB (y.o.map Fx.fld)=true):=fun y hy=>by
  have e:y.o.map Fx.fld=((oldS D snap k).getD zeroV).val:=by rw [←hy];rfl
  rw [e]
  cases ho:oldS D snap k with
  | none=>exact may_nil
  | some v=>exact hD.may k v (atV_in ho)
 have HM2:Hid (mayB (valW (getW L k))=true):=by
  show _=_
  obtain ⟨m,F,O,hu⟩:=hw
  cases hg:getW L k with
  | none=>exact may_nil
  | some r =>
   cases r with
   | none=>exact may_nil
   | some v=>exact hu.ok.may _ (getW_mem hg) v rfl
 obtain ⟨o,ho⟩:∃o,oldS D snap k=o:=⟨_,rfl⟩
 rw [show atV (ofD D k) snap=o from ho] at HBE
 rw [ho] at HM1 ⊢
 obtain ⟨GX,hGX⟩:∃GX,getW L k=GX:=⟨_,rfl⟩
 unfold GetPostP at HGE
 rw [hGX] at HGE HM2 ⊢
 obtain ⟨ka,kb⟩:=k
 simp only at *
 clear x hD hk xv h1 h2 hb0 hsz ho hGX hw
 go_enter Tryz.func106,Tryz.ntmps106
 go_upto_region 1 with fail
 try rw [hV]
 try rw [hQ]
 go_wp2_with fail
 refine HBE.out.mono ?_
 rintro e1 w1 ⟨y,rfl,hv,hj,hb1⟩
 obtain ⟨X,hX⟩:∃X,w1.heap.size=X:=⟨_,rfl⟩
 obtain ⟨W2,hW2⟩:∃W2,w1.alloc (.cells #[.int .i64 0,.int .u64 0,.int .i64 0,.bool false,.slice none 0 0] 46)=W2:=⟨_,rfl⟩
 have hx2:W2.heap[X]? = some (.cells #[.int .i64 0,.int .u64 0,.int .i64 0,.bool false,.slice none 0 0] 46 (0,0)):=by rw [←hW2,←hX];exact heap_alloc_new w1 _
 have hal:Below w1.heap.size w1 W2:=by rw [←hW2];exact (Below.refl _ _).alloc (Nat.le_refl _) _
 have hsX:V.heap.size≤X:=by rw [←hX];exact hb1.size
 have HMY:=hid (HM1.out y hv)
 have HVV:=hid hv
 clear hv HM1 HBE a0 a1 x3
 obtain ⟨yn,ys,yt,yl,yp,yc,yo⟩:=y
 simp only [encVx,Vx.sl] at *
 obtain ⟨W3,hW3⟩:∃W3,(((((W2.setCell ⟨X,0,none⟩ (.int .i64 yn)).setCell ⟨X,1,none⟩ (.int .u64 ys)).setCell ⟨X,2,none⟩ (.int .i64 yt)).setCell ⟨X,3,none⟩ (.bool yl)).setCell ⟨X,4,none⟩ (.slice yp yo.length yc))=W3:=⟨_,rfl⟩
 obtain ⟨hbx,fx⟩:=put_ver hx2 ⟨yn,ys,yt,yl,yp,yc,yo⟩ W3 hW3
 have y0:W2.cell? ⟨X,0,none⟩=some (.int .i64 0):=cz hx2
 have z0:=Lib.frozen_of_heap hx2 0
 have y1:W2.cell? ⟨X,1,none⟩=some (.int .u64 0):=cz hx2
 have z1:=Lib.frozen_of_heap hx2 1
 have y2:W2.cell? ⟨X,2,none⟩=some (.int .i64 0):=cz hx2
 have z2:=Lib.frozen_of_heap hx2 2
 have y3:W2.cell? ⟨X,3,none⟩=some (.bool false):=cz hx2
 have z3:=Lib.frozen_of_heap hx2 3
 have y4:W2.cell? ⟨X,4,none⟩=some (.slice none 0 0):=cz hx2
 have z4:=Lib.frozen_of_heap hx2 4
 have hb13:Below w1.heap.size w1 W3:=hal.trans (fx.below hal.size fun k hk=>by omega)
 have hbV3:Below V.heap.size V W3:=bel_then hb1 hb1.size hb13
 have hS3:=HS.out W3 hbV3
 have HG3:=hid fun n'=>HGE.out (W3.drewN n') (bel_drewN hbV3 n')
 have HJ3:Hid (OwnJ V.heap.size W3 (.slice yp yo.length yc) yo):=ownJ_fr (P:=fun _=>False) hj (Fr.of_below hb13) fun _ _ f=>f
 have HB3:=hid hbV3
 have HX3:=hid hbx
 have HSX:Hid (V.heap.size≤X∧X<W3.heap.size):=⟨hsX,(Array.getElem?_eq_some_iff.1 hbx).1⟩
 clear hbx fx hal hb13 hbV3 hj hb1 hsX HGE hx2
 go_upto_region 2 with fail
 try rw [hX]
 try rw [hW2]
 try rw [hW3]
 clear y0 y1 y2 y3 y4 z0 z1 z2 z3 z4
 refine wp_region_held_drew (S:=fun w'=>w'.cell? ⟨Q,0,none⟩=some (.string ka)∧w'.cell? ⟨Q,1,none⟩=some (.string kb)∧w'.cell? ⟨g,3,none⟩=some (.pointer (some ⟨gw,0,none⟩))) (by kernel_rfl) hS3 (fun hHeld=>?_)
 refine tkv 0 (.pointer (some ⟨g,0,none⟩)) hHeld ?_
 simp only [Act.put,sz]
 refine tkv 1 (.pointer (some ⟨g,0,none⟩)) hHeld ?_
 simp only [Act.put,sz]
 refine tkv 2 (.pointer (some ⟨g,3,none⟩)) hHeld ?_
 simp only [Act.put,sz]
 refine tkv 3 (.pointer (some ⟨gw,0,none⟩)) hHeld ?_
 simp only [Act.put,sz]
 refine tkv 4 (.agg #[.string ka,.string kb]) hHeld ?_
 simp only [Act.put,sz]
 clear hHeld hS3
 refine wpAnyH_ready (rs:=[5]) (by kernel_rfl) (by simp) ?_
 refine AllReadyH.cons (at_drop0 rfl) (fun K hK=>?_) AllReadyH.nil
 rw [if_pos (by rfl)]
 go_simp
 refine (HG3.out 1).mono ?_
 rintro e5 w5 ⟨vp,vcap,ov,rfl,hoj,hov,hb5⟩
 have hb35:Below W3.heap.size W3 w5:=bel_then (bel_drewN (Below.refl W3.heap.size W3) 1) (by simp) hb5
 have hbV5:Below V.heap.size V w5:=bel_then HB3.out HB3.out.size hb35
 have hS5:=HS.out w5 hbV5
 have hz:w5.heap[Q+1]? = some (.cells #[.string ⟨#[]⟩,.string ⟨#[]⟩,.bool false,.slice none 0 0,.bool false,.slice none 0 0] 105 (0,0)):=(hbV5.block _ (by have:=HSZ.out;omega)).trans HH2.out
 have hx5:w5.heap[X]? = some (.cells #[.int .i64 yn,.int .u64 ys,.int .i64 yt,.bool yl,.slice yp yo.length yc] 46 (0,0)):=(hb35.block _ HSX.out.2).trans HX3.out
 have HJ5:Hid (OwnJ V.heap.size w5 (.slice yp yo.length yc) yo):=ownJ_fr (P:=fun _=>False) HJ3.out (Fr.of_below hb35) fun _ _ f=>f
 have HAP:Hid (∀k,BlkX (.slice yp yo.length yc) yo k→¬ BlkX (.slice vp ov.length vcap) ov k):=fun k h1 h2=>by
  have e1:=(ownJ_blk HJ3.out k h1).2
  have e2:W3.heap.size≤k:=(ownJ_blk hoj k h2).1
  omega
 have HOJ:Hid (OwnJ V.heap.size w5 (.slice vp ov.length vcap) ov):=own_weakJ hoj (Nat.le_trans HB3.out.size (by simp))
 have HOV:=hid hov
 have HB5:=hid hbV5
 clear hb5 hb35 hbV5 hoj hov HG3 HJ3 HX3 HB3 HS
 go_wp2_with fail
 refine hK.out _ _ hS5 (fun hHeld=>?_)
 clear hK K
 try simp only [Act.put,sz]
 obtain ⟨k0,k1,_⟩:=hS5
 refine tkv 6 (.tuple #[.slice vp ov.length vcap,.bool (liveW GX),.bool GX.isSome]) hHeld ?_
 simp only [Act.put,sz]
 refine tkv 7 (.slice vp ov.length vcap) hHeld ?_
 simp only [Act.put,sz]
 refine tkv 10 (.slice vp ov.length vcap) hHeld ?_
 simp only [Act.put,sz]
 refine tkv 8 (.bool (liveW GX)) hHeld ?_
 simp only [Act.put,sz]
 refine tkv 11 (.bool (liveW GX)) hHeld ?_
 simp only [Act.put,sz]
 refine tkv 9 (.bool GX.isSome) hHeld ?_
 simp only [Act.put,sz]
 refine tkv 12 (.bool GX.isSome) hHeld ?_
 simp only [Act.put,sz]
 refine wpAnyH_done (by kernel_rfl) ?_ _
 have y0:w5.cell? ⟨Q+1,0,none⟩=some (.string ⟨#[]⟩):=cz hz
 have z0:=Lib.frozen_of_heap hz 0
 have y1:w5.cell? ⟨Q+1,1,none⟩=some (.string ⟨#[]⟩):=cz hz
 have z1:=Lib.frozen_of_heap hz 1
 have y2:w5.cell? ⟨Q+1,2,none⟩=some (.bool false):=cz hz
 have z2:=Lib.frozen_of_heap hz 2
 have y3:w5.cell? ⟨Q+1,3,none⟩=some (.slice none 0 0):=cz hz
 have z3:=Lib.frozen_of_heap hz 3
 have y4:w5.cell? ⟨Q+1,4,none⟩=some (.bool false):=cz hz
 have z4:=Lib.frozen_of_heap hz 4
 have y5:w5.cell? ⟨Q+1,5,none⟩=some (.slice none 0 0):=cz hz
 have z5:=Lib.frozen_of_heap hz 5
 have d0:w5.cell? ⟨X,0,none⟩=some (.int .i64 yn):=cz hx5
 have d1:w5.cell? ⟨X,1,none⟩=some (.int .u64 ys):=cz hx5
 have d2:w5.cell? ⟨X,2,none⟩=some (.int .i64 yt):=cz hx5
 have d3:w5.cell? ⟨X,3,none⟩=some (.bool yl):=cz hx5
 have d4:w5.cell? ⟨X,4,none⟩=some (.slice yp yo.length yc):=cz hx5
 obtain ⟨WZ,hWZ⟩:∃WZ,((((((w5.setCell ⟨Q+1,0,none⟩ (.string ka)).setCell ⟨Q+1,1,none⟩ (.string kb)).setCell ⟨Q+1,2,none⟩ (.bool yl)).setCell ⟨Q+1,3,none⟩ (.slice yp yo.length yc)).setCell ⟨Q+1,4,none⟩ (.bool (liveW GX))).setCell ⟨Q+1,5,none⟩ (.slice vp ov.length vcap))=WZ:=⟨_,rfl⟩
 obtain ⟨hbz,fz⟩:=put_chg hz ⟨ka,kb,yl,yp,yc,yo,liveW GX,vp,vcap,ov⟩ WZ hWZ
 have g0:WZ.cell? ⟨Q+1,0,none⟩=some (.string ka):=cz hbz
 have g1:WZ.cell? ⟨Q+1,1,none⟩=some (.string kb):=cz hbz
 have g2:WZ.cell? ⟨Q+1,2,none⟩=some (.bool yl):=cz hbz
 have g3:WZ.cell? ⟨Q+1,3,none⟩=some (.slice yp yo.length yc):=cz hbz
 have g4:WZ.cell? ⟨Q+1,4,none⟩=some (.bool (liveW GX)):=cz hbz
 have g5:WZ.cell? ⟨Q+1,5,none⟩=some (.slice vp ov.length vcap):=cz hbz
 have HFIN:Hid (ChgPost W ⟨(ka,kb),(o.getD zeroV).live,(o.getD zeroV).val,liveW GX,valW GX⟩ (.returned (.agg #[.string ka,.string kb,.bool yl,.slice yp yo.length yc,.bool (liveW GX),.slice vp ov.length vcap])) WZ):=by
  have q:Below W.heap.size W w5:=bel_then HV.out HV.out.size HB5.out
  have e1:=HSZ.out
  have e2:=HQQ.out
  have hm1:=HMY.out
  have hm2:=HM2.out
  rw [←HOV.out] at hm2
  refine ⟨⟨ka,kb,yl,yp,yc,yo,liveW GX,vp,vcap,ov⟩,rfl,⟨own_weakJ (ownJ_fr HJ5.out fz fun k hk e=>by have:=(ownJ_blk HJ5.out k hk).1;omega) HV.out.size,own_weakJ (ownJ_fr HOJ.out fz fun k hk e=>by have:=(ownJ_blk HOJ.out k hk).1;omega) HV.out.size,(may_fit hm1).1,(may_fit hm2).1,HAP.out,(may_fit hm1).2,(may_fit hm2).2⟩,?_,q.trans (fz.below q.size fun k hk=>by omega)⟩
  show Ch.mk (ka,kb) yl (yo.map Fx.fld) (liveW GX) (ov.map Fx.fld)=_
  rw [HOV.out,←HVV.out]
  rfl
 clear hbz fz hz hx5 HOJ HOV HVV HJ5 HAP HMY HM2
 go_wp2_with fail
 try rw [hWZ]
 exact bodyPost_ret (v:=.agg #[.string ka,.string kb,.bool yl,.slice yp yo.length yc,.bool (liveW GX),.slice vp ov.length vcap]) (by simp [results,Tryz.results106,go_sem,g0,g1,g2,g3,g4,g5]) rfl HFIN.out
end
section
open Go.RowKit Go.Maps Go.Sort
attribute [local go_sem] Oper.semAt_some
section
variable {κ ε:Type} {T:MKind κ ε} {F:Fence} {nf:Nat} (w:World) {ops:Array Oper} {rest:List Oper} {o:Oper} {a:Act} {Q:Exit→Act→World→Prop}
set_option maxRecDepth 100000 in
theorem wpIn_range_G (hg:o.guard=none) (mo:Operand) (hop:o.op=Op.range T.M mo) (m n:Nat) (f:κ→Option ε) (c:Nat) (hm:a.eval mo=.map (some m)) (h:MapG T w m n f c)
  (hK:∀w',RangeG T w' m w.heap.size n f c [] c→w.grownBy w' none→w'.heap.size=w.heap.size+1→wpListIn F nf Tryz.prog ops Q rest (a.put o.dst (.pointer (some ⟨w.heap.size,0,none⟩))) w') :
  wpListIn F nf Tryz.prog ops Q (o::rest) a w:=by
 obtain ⟨D,hD,hf,hh,hc⟩:=h
 refine wpListIn_range_own w hg mo _ hop _ _ T.keyed T.und T.read m n D hm hD fun w' h1 h2 h3=>hK w' ?_ h2 h3
 rw [hc] at h1
 exact ⟨D,_,h1,hf,hh,hc,fun k hk=>by rw [hh k hk];simp,List.nodup_nil,fun k hk=>by simp at hk,by simp⟩
set_option maxRecDepth 100000 in
theorem wpIn_next_G (hg:o.guard=none) (it:Operand) (hop:o.op=Op.next it false) (m r n:Nat) (f:κ→Option ε) (c:Nat) (seen:List κ) (cnt:Nat) (hit:a.eval it=.pointer (some ⟨r,0,none⟩)) (h:RangeG T w m r n f c seen cnt)
  (hDone:(∀k,T.fit k→(f k).isSome=true→k∈seen)→wpListIn F nf Tryz.prog ops Q rest (a.put o.dst (.tuple #[.bool false])) w)
  (hMore:∀(k:κ) (e:ε) (w':World) (cnt':Nat),T.fit k→k ∉ seen→f k=some e→RangeG T w' m r n f c (seen++[k]) cnt'→cnt'<cnt→w.grownBy w' (some r)→w'.heap.size=w.heap.size →
   (Instr.entry (.pointer (some ⟨r,0,none⟩))).run Tryz.prog w'=.ok (.tuple #[T.key k,T.val e]) w'→wpListIn F nf Tryz.prog ops Q rest (a.put o.dst (.tuple #[.bool true,T.key k,T.val e])) w') :
  wpListIn F nf Tryz.prog ops Q (o::rest) a w:=by
 obtain ⟨D,left,h1,h2,h3,hc,h4,h5,h6,h7⟩:=h
 refine wpListIn_next_ranges w hg it hop _ T.keyed T.read T.key T.val T.key_inv T.read_inv m r n D left cnt hit h1 (fun _ hl=>hDone fun k hk hs=>?_) fun x e kl y w' cnt' hkey hlk hR hat hr hlt hg' hsz hen=>?_
 ·refine Classical.byContradiction fun hn=>?_
  have:=(h4 k hk).2 ⟨hs,hn⟩
  rw [hl] at this
  cases this
 ·obtain ⟨hx,rfl⟩:=T.key_fit _ _ hkey
  have hb:(f x).isSome=true∧x ∉ seen:=(h4 x hx).1 hlk
  obtain ⟨e',he'⟩:=Option.isSome_iff_exists.1 hb.1
  have hee:e=e':=by
   rw [T.read_mk] at hR
   injection hR with hR
   have:=hat (T.enc T.zero)
   rw [←hR,h2 x hx,he'] at this
   exact (T.enc_inj _ _ this).symm
  subst hee
  refine hMore x e w' cnt' hx hb.2 he' ⟨D,_,hr,h2,h3,hc,fun k hk=>?_,?_,fun k hk=>?_,by rw [List.length_append,List.length_singleton];omega⟩ hlt hg' hsz hen
  ·show (left (T.lit k) && !(T.lit k).sameKey (T.lit x))=true↔_
   rw [Bool.and_eq_true,h4 k hk]
   by_cases e1:k=x
   ·subst e1
    rw [WideAt.sameKey_self (T.keyed.key (T.key_is k hk))]
    simp
   ·rw [sameKey_ne (fun h=>e1 (T.lit_inj _ _ hk hx h))]
    simp [e1]
  ·exact List.nodup_append.2 ⟨h5,by simp,fun a ha b hb'=>by
    rw [List.mem_singleton] at hb'
    rintro rfl
    rw [hb'] at ha
    exact hb.2 ha⟩
  ·rcases List.mem_append.1 hk with hk|hk
   ·exact h6 k hk
   ·rw [List.mem_singleton] at hk
    subst hk
    exact ⟨hx,hb.1⟩
end
theorem fr_rowG {W W':World} {row:Option Nat} (hg:W.grownBy W' row):Fr (fun b=>row=some b) W W':=Fr.of_grown hg fun _ h=>h
theorem grown_ofG {w w':World} (h:Below w.heap.size w w'):w.grownBy w' none:=⟨h.os,h.tape,h.output,h.size,fun i hi _=>h.block i hi⟩
theorem own_ncG {α:Type} {K:Kind α} {N:Nat} {W W':World} {v:Value} {d:List α} {row:Option Nat} (h:K.Own N W v d) (hg:W.grownBy W' row) (hr:∀r,row=some r→∃ob:Obj,W.heap[r]? = some ob∧ob.isCells=false):K.Own N W' v d :=
 (fr_rowG hg).row h fun k hk e=>by
  obtain ⟨cs,h1⟩:=own_type h hk
  obtain ⟨ob,h2,h3⟩:=hr k e
  rw [h1] at h2
  injection h2 with h2
  rw [←h2] at h3
  cases h3
theorem cells_ncG {W W':World} {b:Nat} {cs:Array Value} {t:TypeId} {fz:Nat × Nat} {row:Option Nat} (h:W.heap[b]? = some (.cells cs t fz)) (hg:W.grownBy W' row) (hr:∀r,row=some r→∃ob:Obj,W.heap[r]? = some ob∧ob.isCells=false):W'.heap[b]? = some (.cells cs t fz) :=
 (hg.block b (Array.getElem?_eq_some_iff.1 h).1 fun e=>by
  obtain ⟨ob,h2,h3⟩:=hr b e.symm
  rw [h] at h2
  injection h2 with h2
  rw [←h2] at h3
  cases h3).trans h
theorem keeps_ofG {B:Nat} {P:Nat→Prop} {W W':World} (f:Fr P W W') (h:∀b,B≤b→P b→∃cs t fz,W.heap[b]? = some (.cells cs t fz)):KeepsFrom B W W' :=
 ⟨f.size,fun k o hk ho hc=>by
  by_cases hp:P k
  ·obtain ⟨cs,t,fz,hh⟩:=h k hk hp
   rw [hh] at ho
   injection ho with ho
   rw [←ho] at hc
   cases hc
  ·exact (f.block k (Array.getElem?_eq_some_iff.1 ho).1 hp).trans ho⟩
theorem Tryz.infoKg:(Tryz.prog.info? 39).map (fun i=>(i.zero,i.size,i.bytes))=some (some (.agg #[.string ⟨#[]⟩,.string ⟨#[]⟩]),2,32):=by kernel_rfl
def KpG (W W':World):Prop:=W.heap.size≤W'.heap.size∧∀(k:Nat) (o:Obj),W.heap[k]? = some o→o.isWalk=true→W'.heap[k]? = some o
theorem kpG_trans {X Y Z:World} (h:KpG X Y) (k:KpG Y Z):KpG X Z:=⟨Nat.le_trans h.1 k.1,fun i o hi ho=>k.2 i o (h.2 i o hi ho) ho⟩
theorem kpG_put (W:World) (l:Nat) (o:Obj) (h:∃r,W.heap[l]? = some (.loop r)):KpG W (W.putObj l o):=by
 obtain ⟨r,hr⟩:=h
 refine ⟨by simp,fun k ob hk ho=>?_⟩
 by_cases e:k=l
 ·subst e
  rw [hr] at hk
  injection hk with hk
  subst hk
  cases ho
 ·exact (World.putObj_heap_other e).trans hk
theorem kpG_fr {P:Nat→Prop} {W W':World} (f:Fr P W W') (h:∀b,P b→b<W.heap.size→∃cs t fz,W.heap[b]? = some (.cells cs t fz)):KpG W W':=by
 refine ⟨f.size,fun k o hk ho=>?_⟩
 have hlt:=(Array.getElem?_eq_some_iff.1 hk).1
 by_cases hp:P k
 ·obtain ⟨cs,t,fz,hc⟩:=h k hp hlt
  rw [hc] at hk
  injection hk with hk
  subst hk
  cases ho
 ·exact (f.block k hlt hp).trans hk
def encKg (k:Ky):Array Value:=#[.agg #[.string k.1,.string k.2]]
set_option maxHeartbeats 4000000 in
set_option maxRecDepth 100000 in
theorem wkeys1_in (nn:Nat) (hnn:1≤nn) (l Bm m n c:Nat) (f:Ky→Option We) (J Jx:List Ky→World→Prop)
  (W:World) (hJ:AbidesFrom W.heap.size J) (hY:∀pre x W1,J pre W1→(FitK x∧pre.length<c)→YieldAt Fence.wide (nn-1) Tryz.prog l (encKg x) W1 fun e W' =>
   (e=.returned (.bool true)∧J (pre++[x]) W'∧KpG W1 W')∨(e=.returned (.bool false)∧Jx (pre++[x]) W'))
  (hm:W.cell? ⟨Bm,0,none⟩=some (.map (some m))) (hM:MapG MW W m n f c) (h0:J [] W) :
  CallsIn Fence.wide nn Tryz.prog 257 #[.func (.yield l) #[] #[],.pointer (some ⟨Bm,0,none⟩)] W fun e W'=>(∃v,e=.returned v) ∧
   ((∃xs:List Ky,(xs.Nodup∧∀k,k∈xs↔FitK k∧(f k).isSome=true)∧J xs W')∨(∃pre:List Ky,True∧Jx pre W')):=by
 have HM:=hid hM
 obtain ⟨N,hN⟩:∃N,W.heap.size=N:=⟨_,rfl⟩
 refine callsIn_of_wp Tryz.func257 rfl trivial ?_ rfl
 simp only [Tryz.ntmps257,List.size_toArray,List.length_cons,List.length_nil,Nat.reduceAdd,Nat.reduceSub,Array.replicate_succ,Array.replicate_zero,List.push_toArray,List.append_toArray,List.nil_append,List.cons_append]
 gi_wp2_with (first|(gi_at_range;refine wpIn_range_G (T:=MW) _ rfl _ rfl m n f c rfl HM.out ?_;intro w0 hr0 hg0 hs0)|gi_in)
 go_frame
 have ST0:Hid (RangeG MW w0 m N n f c [] c∧J [] w0):=⟨by rw [←hN];exact hr0,hJ [] W w0 none h0 hg0 (fun r e=>by cases e)⟩
 clear hr0 hg0 hs0 HM hM hm
 rw [hN]
 gi_loopw [3] (fun _ wr=>∃(seen:List Ky) (cnt:Nat),RangeG MW wr m N n f c seen cnt∧J seen wr) (fun _ wr=>wr.rangeLeft m N)
 case atStart=>exact ⟨[],c,ST0.out.1,ST0.out.2⟩
 case round =>
  obtain ⟨seen,cnt,hr,hJs⟩:=hrel
  have hnd:=hr.nodup
  gi_wp2_with (first|(gi_at_next;refine wpIn_next_G (T:=MW) _ rfl _ rfl m N n f c seen cnt rfl hr ?_ ?_)|gi_in)
  ·intro hall
   gi_wp2
   go_end0
   exact ⟨⟨_,rfl⟩,.inl ⟨seen,⟨hnd.1,fun k=>⟨fun hk=>hnd.2.1 k hk,fun hk=>hall k.1 k.2 hk.1 hk.2⟩⟩,hJs⟩⟩
  ·intro ka kb b w2 cnt2 hkf hks hfb hr2 hlt hg2 hs2 hen
   obtain ⟨si,sn,sc,hit⟩:=hr.iter
   have hJ2:J seen w2:=hJ seen wr w2 (some N) hJs hg2 (fun r e=>by cases e;exact ⟨by omega,_,hit,rfl⟩)
   have hb3:Below w2.heap.size w2 (w2.alloc (.cells #[.string ka,.string kb] 39)):=(Below.refl _ _).alloc (Nat.le_refl _) _
   have hJ3:J seen (w2.alloc (.cells #[.string ka,.string kb] 39)):=hJ seen w2 _ none hJ2 (grown_ofG hb3) fun r e=>by cases e
   have hr3:=hr2.on (hb3.block _ hr2.map.lt) (hb3.block _ hr2.lt)
   obtain ⟨fn,tmps,assign,body,hy,hR⟩:=hY seen (ka,kb) _ hJ3 ⟨hkf,by have:=hr2.nodup.2.2;rw [List.length_append] at this;simp at this;omega⟩
   simp only [encKg] at hy
   have HR3:=hid hr3
   have hle:=hr.left_eq
   have HLE:=hid hle
   simp only [MW,valK,We.val,We.sl] at hen ⊢
   clear hs2 hr hr2 hr3 hnd hg2 hJ2 hJ3 hJs hfb hkf hks hb3 hle hit
   gi_wp2
   refine hR.mono ?_
   rintro e W3 (⟨rfl,hJ3,hk3⟩|⟨rfl,hJx3⟩)
   ·obtain ⟨es,cl,hme⟩:=HR3.out.map.obj
    obtain ⟨si,sn,sc,hit⟩:=HR3.out.iter
    have hr4:=HR3.out.on ((hk3.2 m _ hme rfl).trans hme.symm) ((hk3.2 N _ hit rfl).trans hit.symm)
    have HR4:=hid hr4
    have HJ3:=hid hJ3
    clear hr4 hJ3 hk3 hme hit
    gi_wp2
    go_roundw
    case rel=>exact ⟨seen++[(ka,kb)],cnt2,HR4.out,HJ3.out⟩
    case measure=>rw [HR4.out.left_eq,HLE.out];exact hlt
   ·gi_wp2
    refine bodyPost_ret (results_none rfl _ _ _) rfl ?_
    exact ⟨⟨_,rfl⟩,.inr ⟨_,trivial,hJx3⟩⟩
theorem wkeys_seq (nn:Nat) (hnn:1≤nn) {w:World} {Bm m n c:Nat} {f:Ky→Option We} (hm:w.cell? ⟨Bm,0,none⟩=some (.map (some m))) (hM:MapG MW w m n f c) :
  SeqM Fence.wide nn Tryz.prog 257 #[.pointer (some ⟨Bm,0,none⟩)] encKg (fun pre x _=>FitK x∧pre.length<c) KpG (fun xs=>xs.Nodup∧∀k,k∈xs↔FitK k∧(f k).isSome=true) (fun _=>True) w :=
 fun l J Jx W hW hJ hY h0=>wkeys1_in nn hnn l Bm m n c f J Jx W hJ hY ((hW.cell (p:=⟨Bm,0,none⟩) (cell_block hm)).trans hm) (hM.on (hW.block m hM.lt)) h0
def SeqK (W0:World) (Bm:Nat) (f:Ky→Option We) (c:Nat):Prop:=∀w,Below W0.heap.size W0 w→SeqM Fence.wide 2 Tryz.prog 257 #[.pointer (some ⟨Bm,0,none⟩)] encKg (fun pre x _=>FitK x∧pre.length<c) KpG (fun xs=>xs.Nodup∧∀k,k∈xs↔FitK k∧(f k).isSome=true) (fun _=>True) w
theorem SeqK.of {W0:World} {Bm m n c:Nat} {f:Ky→Option We} (hm:W0.cell? ⟨Bm,0,none⟩=some (.map (some m))) (hM:MapG MW W0 m n f c):SeqK W0 Bm f c:=fun _ hb =>
 wkeys_seq (nn:=2) (by decide) ((hb.cell (p:=⟨Bm,0,none⟩) (cell_block hm)).trans hm) (hM.on (hb.block m hM.lt))
structure KsG (Bs:Nat) (w:World) (pre:List Ky) (v:Value) (W:World):Prop where
 box:W.heap[Bs]? = some (.cells #[v] 50 (0,0))
 own:KK.Own w.heap.size W v pre
 fr:Fr (fun b=>b=Bs) w W
 lt:Bs<w.heap.size
theorem KsG.nc {Bs:Nat} {w:World} {pre:List Ky} {v:Value} {W W':World} {row:Option Nat} (h:KsG Bs w pre v W) (hg:W.grownBy W' row) (hr:∀r,row=some r→w.heap.size≤r∧∃ob:Obj,W.heap[r]? = some ob∧ob.isCells=false):KsG Bs w pre v W' :=
 ⟨cells_ncG h.box hg fun r e=>(hr r e).2,own_ncG h.own hg fun r e=>(hr r e).2,Fr.then h.fr (fr_rowG hg) fun b hb=>Or.inr (hr b hb).1,h.lt⟩
theorem KsG.own_from (Bs:Nat) (w:World):OwnFrom w.heap.size (fun pre W=>∃v,KsG Bs w pre v W):=by
 rintro s W W' row ⟨v,h⟩ hg hr
 exact ⟨v,h.nc hg hr⟩
theorem ksG_push {Bs:Nat} {w:World} {pre:List Ky} {v v':Value} {W W4 w1:World} {x:Ky} (h:KsG Bs w pre v W) (hb4:Below W.heap.size W W4) (hg:W4.grownBy w1 v.ownBlock) (ho1:KK.Own w.heap.size w1 v' (pre++[x])) :
  KeepsFrom w.heap.size W (w1.setCell ⟨Bs,0,none⟩ v')∧KpG W (w1.setCell ⟨Bs,0,none⟩ v')∧KsG Bs w (pre++[x]) v' (w1.setCell ⟨Bs,0,none⟩ v'):=by
 have hlt:=h.lt
 have hfs:=h.fr.size
 have hblk:∀b,v.ownBlock=some b→w.heap.size≤b∧∃cs,W.heap[b]? = some (.cells cs 39 (0,0)):=fun b hb=>⟨(World.ownsRow.lt h.own b hb).1,own_type h.own hb⟩
 have fset:Fr (fun b=>b=Bs) w1 (w1.setCell ⟨Bs,0,none⟩ v'):=Fr.of_grown (grown_set w1 Bs 0 v') fun k hk=>by injection hk with hk;exact hk.symm
 have f41:Fr (fun b=>v.ownBlock=some b) W w1:=Fr.then (Fr.of_below hb4) (fr_rowG hg) fun b hb=>Or.inl hb
 have f5:Fr (fun b=>b=Bs∨v.ownBlock=some b) W (w1.setCell ⟨Bs,0,none⟩ v'):=Fr.then (f41.mono fun b hb=>Or.inr hb) fset fun b hb=>Or.inl (Or.inl hb)
 have hbox1:w1.heap[Bs]? = some (.cells #[v] 50 (0,0)):=(f41.block Bs (by omega) fun e=>by have:=(hblk Bs e).1;omega).trans h.box
 have hcell:∀b,(b=Bs∨v.ownBlock=some b)→∃cs t fz,W.heap[b]? = some (.cells cs t fz):=fun b hb=>by
  rcases hb with rfl|hb
  ·exact ⟨_,_,_,h.box⟩
  ·obtain ⟨cs,h1⟩:=(hblk b hb).2
   exact ⟨_,_,_,h1⟩
 refine ⟨keeps_ofG f5 fun b _ e=>hcell b e,kpG_fr f5 fun b hb _=>hcell b hb,heap_setCell_same w1 Bs 0 _ _ _ hbox1,fset.row ho1 fun k hk e=>?_,Fr.then h.fr f5 fun b hb=>?_,hlt⟩
 ·have:=(World.ownsRow.lt ho1 k hk).1;omega
 ·rcases hb with hb|hb
  ·exact Or.inl hb
  ·exact Or.inr (hblk b hb).1
def AxG (Bs:Nat) (w:World) (c:Nat) (A:Nat→Ky→Act) (pre:List Ky) (x:Ky) (a':Act) (W:World):Prop :=
 ∃Bx v,a'=A Bx x∧W.heap[Bx]? = some (.cells #[.string x.1,.string x.2] 39 (0,0))∧KsG Bs w pre v W∧pre.length<c
theorem AxG.own_from (Bs:Nat) (w:World) (n:Nat) (A:Nat→Ky→Act) (pre:List Ky) (x:Ky) (a':Act):OwnFrom w.heap.size (fun (_:Unit) W=>AxG Bs w n A pre x a' W):=by
 rintro _ W W' row ⟨Bx,v,h1,h2,h3,h4⟩ hg hr
 exact ⟨Bx,v,h1,cells_ncG h2 hg fun r e=>(hr r e).2,h3.nc hg hr,h4⟩
def CollG (w:World) (f:Ky→Option We) (e:Ending) (w':World):Prop :=
 ∃u ks,e=.returned u∧KK.Own w.heap.size w' u ks∧ks.Nodup∧(∀k,k∈ks↔FitK k∧(f k).isSome=true)∧Below w.heap.size w w'
set_option maxHeartbeats 4000000 in
set_option maxRecDepth 100000 in
theorem wappendseq_any {W0:World} {Bm c:Nat} {f:Ky→Option We} (hq:SeqK W0 Bm f c) (hn:c≤2400000000000) :
  Calls Tryz.prog 332 #[.slice none 0 0,.func (.func 257) #[] #[.pointer (some ⟨Bm,0,none⟩)]] W0 fun e w'=>CollG W0 f e w':=by
 obtain ⟨N,hN⟩:∃N,W0.heap.size=N:=⟨_,rfl⟩
 obtain ⟨w4,hw4⟩:∃w4,W0.alloc (.cells #[.slice none 0 0] 50)=w4:=⟨_,rfl⟩
 have hb4:Below N W0 w4:=by rw [←hw4,←hN];exact (Below.refl _ _).alloc (Nat.le_refl _) _
 have hs4:w4.heap.size=N+1:=by rw [←hw4,←hN];simp
 have x0:w4.heap[N]? = some (.cells #[.slice none 0 0] 50 (0,0)):=by rw [←hw4,←hN];exact heap_alloc_new W0 _
 have hSEQ:=hq w4 (by rw [hN];exact hb4)
 have HF0:Hid (KsG N w4 [] (.slice none 0 0) w4):=⟨x0,KK.own_nil _ _,Fr.refl _ _,by omega⟩
 have HB04:=hid hb4
 clear hb4 x0 hq
 have hen:=enters_of (P:=Tryz.prog) Tryz.func257 (by kernel_rfl) rfl
 refine (callsIn_wide (n:=3)).1 ?_
 refine callsIn_of_wp_marks Tryz.func332 rfl trivial ?_ rfl
 simp only [Tryz.ntmps332,List.size_toArray,List.length_cons,List.length_nil,Nat.reduceAdd,Nat.reduceSub,Array.replicate_succ,Array.replicate_zero,List.push_toArray,List.append_toArray,List.nil_append,List.cons_append]
 gi_wp2
 refine wpIn_rangeFunc_mem (w:=w4) rfl (by decide) (gf:=257) (lb:=#[.pointer (some ⟨Bm,0,none⟩)]) rfl trivial hen
  hSEQ kpG_trans (fun W l o' _ hr=>kpG_put W l o' hr) (fun _=>rfl) (fun pre W=>∃v,KsG N w4 pre v W) (fun _ _ _=>False) (KsG.own_from _ _) (fun _ _ _ _ _ h _ _=>h.elim) ⟨_,HF0.out⟩
  (AxG N w4 c (fun Bx x=>{ tmps:=#[.slice none 0 0,.func (.func 257) #[] #[.pointer (some ⟨Bm,0,none⟩)],.pointer (some ⟨N,0,none⟩),undef,.slice none 0 0,.pointer (some ⟨Bx,0,none⟩),.func (.func 257) #[] #[.pointer (some ⟨Bm,0,none⟩)],.agg #[.string x.1,.string x.2],undef,undef,undef,undef,undef],defers:=[] }))
  (fun pre x a'=>AxG.own_from _ _ _ _ pre x a') ?assign ?body ?done ?stop
 case assign =>
  rintro l pre ⟨ka,kb⟩ W K hlt ⟨v,hF⟩ hG hK
  have hb:Below W.heap.size W (W.alloc (.cells #[.string ka,.string kb] 39)):=(Below.refl _ _).alloc (Nat.le_refl _) _
  have HK:=hid (hK _ _ (keeps_ofG (P:=fun _=>False) (Fr.of_below hb) fun b _ e=>e.elim) (kpG_fr (P:=fun _=>False) (Fr.of_below hb) fun b e _=>e.elim) ⟨W.heap.size,v,rfl,heap_alloc_new W _,hF.nc (grown_ofG hb) (fun r e=>by cases e),hG.2⟩)
  simp only [encKg] at HK ⊢
  clear hK hF hG hb
  gi_wp2
  exact HK.out
 case body =>
  rintro l pre ⟨ka,kb⟩ a' W hlt ⟨Bx,v,rfl,hbx,hF,hplen⟩
  obtain ⟨i0,hi0,hz0,hz1,hz2⟩:=info_parts Tryz.infoKg
  have hsW:=hF.fr.size
  obtain ⟨vp,vc,rfl⟩:=Kind.own_shape hF.own
  have z0:W.cell? ⟨N,0,none⟩=some (.slice vp pre.length vc):=by rw [Lib.cell_of_heap hF.box];rfl
  have z2:W.cell? ⟨Bx,0,none⟩=some (.string ka):=cz hbx
  have z3:W.cell? ⟨Bx,1,none⟩=some (.string kb):=cz hbx
  have HF:=hid hF
  have HI:=hid hi0
  have HO5:=hid hF.own
  have KB6:Hid (∀o (w6:World),(W.alloc o).grownBy w6 (Value.slice vp pre.length vc).ownBlock→w6.cell? ⟨N,0,none⟩=some (.slice vp pre.length vc)∧w6.frozen? ⟨N,0,none⟩=false):=fun o w6 hg=>by
   have h1:w6.heap[N]? = some (.cells #[.slice vp pre.length vc] 50 (0,0)):=(hg.block N (by simp;omega) fun e=>by have:=(World.ownsRow.lt HO5.out _ e.symm).1;omega).trans ((Below.heap_alloc _ _ _ (by omega)).trans HF.out.box)
   exact ⟨by rw [Lib.cell_of_heap h1];rfl,Lib.frozen_of_heap h1 0⟩
  clear hF hi0 hbx
  gi_wp2_with (first
   | (gi_at_builtin;refine wpListIn_append_own _ rfl _ _ 50 rfl w4.heap.size 39 i0 (.agg #[.string ⟨#[]⟩,.string ⟨#[]⟩]) 2 32 Tryz.underlying50 HI.out hz0 hz1 hz2 rfl (by decide) _ _ _ rfl (World.ownsRow.alloc HO5.out _) _ 1 1 [.string ka,.string kb] rfl rfl (fun j u hj=>KK.newsN W (ka,kb) _ (by simp) j u hj) (by intro u hu;simp at hu;rcases hu with rfl|rfl<;>rfl) (by unfold maxLen;omega) (by omega) (by simp;omega) ?_;intro v6 w6 hown6 hg6 hnil6;obtain ⟨g6,c6,rfl⟩:=ownsRow_succ hown6;obtain ⟨t0,t1⟩:=KB6.out _ _ hg6;have HO6:=hid hown6;have HG6:=hid hg6;clear hown6 hg6 hnil6))
  obtain ⟨r1,r2,r3⟩:=ksG_push (x:=(ka,kb)) HF.out ((Below.refl _ W).alloc (Nat.le_refl _) _) HG6.out (Kind.own_snoc HO6.out rfl rfl)
  exact ⟨r1,r2,_,r3⟩
 case done =>
  rintro xs W hS ⟨v,hF⟩ hK
  obtain ⟨vp,vc,rfl⟩:=Kind.own_shape hF.own
  have c0:W.cell? ⟨N,0,none⟩=some (.slice vp xs.length vc):=by rw [Lib.cell_of_heap hF.box];rfl
  have hgp:W.grownBy (W.putObj w4.heap.size (.deferred none)) (some w4.heap.size):=grownBy_putObj' W _ _
  have hFp:=hF.nc hgp fun r e=>by injection e with e;rw [←e];exact ⟨Nat.le_refl _,_,hK,rfl⟩
  have hb0:Below N W0 (W.putObj w4.heap.size (.deferred none)):=HB04.out.trans (hFp.fr.below (N:=N) (by omega) fun k hk=>by omega)
  have HP:Hid (CollG W0 f (.returned (.slice vp xs.length vc)) (W.putObj w4.heap.size (.deferred none))) :=
   ⟨_,xs,rfl,Kind.own_weak hFp.own (by omega),hS.1,hS.2,by rw [hN];exact hb0⟩
  have HK:=hid hK
  clear hF hFp hgp hb0 hK
  gi_wp2
  refine ⟨by simp,.inl ⟨_,_,rfl,run_takeDeferred HK.out,?_⟩⟩
  exact ⟨.slice vp xs.length vc,by simp [results,Tryz.results332,go_sem],HP.out⟩
 case stop =>
  rintro c pre W _ hx _
  exact hx.elim
theorem wcollect_any {W0:World} {Bm c:Nat} {f:Ky→Option We} (hq:SeqK W0 Bm f c) (hn:c≤2400000000000) :
  Calls Tryz.prog 255 #[.func (.func 257) #[] #[.pointer (some ⟨Bm,0,none⟩)]] W0 fun e w'=>CollG W0 f e w':=by
 have HA:=hid (wappendseq_any hq hn)
 clear hq
 go_enter Tryz.func255,Tryz.ntmps255
 go_wp2_with fail
 refine HA.out.mono ?_
 rintro e w1 ⟨u,ks,rfl,h1,h2,h3,h4⟩
 have HP:Hid (CollG W0 f (.returned u) w1):=⟨u,ks,rfl,h1,h2,h3,h4⟩
 obtain ⟨p,c,rfl⟩:=Kind.own_shape h1
 clear h1 h2 h3 h4 HA
 go_wp2_with fail
 go_ret
 exact HP.out
theorem sorted_risingG (ks:List Ky) (hn:ks.Nodup) (d:Array Ky) (hp:PermIn 0 ks.length ks.toArray d) (hs:SortedIn (ltOf Z.cmpK) 0 ks.length d):RisingR ltKy d.toList∧(∀x,x∈d.toList↔x∈ks)∧d.size=ks.length:=by
 obtain ⟨h1,_,h3⟩:=hp
 have hsz:d.size=ks.length:=by simpa using h1
 have hperm:d.toList.Perm ks:=by
  have e1:(d.extract 0 ks.length).toList=d.toList:=by rw [←hsz];simp
  have e2:(ks.toArray.extract 0 ks.length).toList=ks:=by simp
  rw [e1,e2] at h3
  exact h3
 have hnd:d.toList.Nodup:=hperm.nodup_iff.2 hn
 refine ⟨?_,fun x=>hperm.mem_iff,hsz⟩
 refine List.pairwise_iff_getElem.2 fun i j hi hj hij=>?_
 have hi':i<d.size:=by simpa using hi
 have hj':j<d.size:=by simpa using hj
 have:=hs i j (Nat.zero_le _) hij (by omega)
 rw [getElem!_pos d i hi',getElem!_pos d j hj'] at this
 have hne:d[i]≠d[j]:=fun e=>by
  have:=List.pairwise_iff_getElem.1 hnd i j hi hj hij
  exact this (by simpa using e)
 have hlt:Z.ahead d[i] d[j]:=by
  rcases Z.ahead_total d[i] d[j] with h|h|h
  ·exact h
  ·exact absurd h hne
  ·rw [(Z.ahead_iff _ _).2 h] at this;cases this
 have:=(z_lt _ _).1 hlt
 simpa using this
def RiseG (w:World) (f:Ky→Option We) (e:Ending) (w':World):Prop :=
 ∃u ks,e=.returned u∧KK.Own w.heap.size w' u ks∧RisingR ltKy ks∧(∀k,k∈ks↔FitK k∧(f k).isSome=true)∧Below w.heap.size w w'
theorem wsortrow_any {B:Nat} {w:World} {u:Value} {ks:List Ky} (h:KK.Own B w u ks) (hn:ks.Nodup) (hl:ks.length≤2400000000000) (hB:B≤w.heap.size) :
  Calls Tryz.prog 256 #[u,.func (.func 166) #[] #[]] w fun e w'=>e=.returned (.tuple #[])∧∃l,KK.Own B w' u l∧RisingR ltKy l∧(∀x,x∈l↔x∈ks)∧l.length=ks.length∧Below B w w':=by
 rcases h.2 with ⟨rfl,hz⟩|⟨g,cap,cur,rfl,_⟩
 ·obtain rfl:=List.length_eq_zero_iff.1 hz
  refine (sortfunc_nil w).mono ?_
  rintro e w' ⟨rfl,rfl⟩
  exact ⟨rfl,[],h,List.Pairwise.nil,fun x=>Iff.rfl,rfl,Below.refl _ _⟩
 ·have hge:=Kind.own_ge h
  have hH:HoldsK Z.encKey 2 w g 0 ks.toArray:=Kind.own_holds h
  have:=Z.zsortfunc_any g 0 cap ks.toArray w hH hge.2.1 (by simp;omega)
  simp only [List.size_toArray] at this
  refine this.mono ?_
  rintro e w' ⟨rfl,d',n,os,hp,hs,rfl⟩
  obtain ⟨h1,h2,h3⟩:=sorted_risingG ks hn d' hp hs
  exact ⟨rfl,d'.toList,Kind.own_sorted h d' h3 n os,h1,h2,by simpa using h3,below_sortK Z.encKey 2 (Below.refl _ _) hB g 0 n d' os hge.1⟩
theorem wsortedfunc_any {W0:World} {Bm c:Nat} {f:Ky→Option We} (hq:SeqK W0 Bm f c) (hn:c≤2400000000000) (hlen:∀ks:List Ky,ks.Nodup→(∀k,k∈ks↔FitK k∧(f k).isSome=true)→ks.length≤2400000000000) :
  Calls Tryz.prog 171 #[.func (.func 257) #[] #[.pointer (some ⟨Bm,0,none⟩)],.func (.func 166) #[] #[]] W0 fun e w'=>RiseG W0 f e w':=by
 have HA:=hid (wcollect_any hq hn)
 have HL:=hid hlen
 clear hq hlen
 go_enter Tryz.func171,Tryz.ntmps171
 go_wp2_with fail
 refine HA.out.mono ?_
 rintro e w1 ⟨u,ks,rfl,h1,h2,h3,h4⟩
 have HS:=hid (wsortrow_any h1 h2 (HL.out ks h2 h3) h4.size)
 have HM:=hid h3
 have HB:=hid h4
 obtain ⟨p,c,rfl⟩:=Kind.own_shape h1
 clear h1 h2 h3 h4 HA
 go_wp2_with fail
 refine HS.out.mono ?_
 rintro e w2 ⟨rfl,l,k1,k2,k3,k4,k5⟩
 have HP:Hid (RiseG W0 f (.returned (.slice p ks.length c)) w2):=⟨_,l,rfl,k1,k2,fun k=>(k3 k).trans (HM.out k),HB.out.trans k5⟩
 clear k1 k2 k3 k4 k5
 go_wp2_with fail
 go_ret
 exact HP.out
theorem keys_there {L:List RowW} (k:Ky):k∈keysW L↔(getW L k).isSome=true:=by
 unfold keysW
 constructor
 ·intro hk
  obtain ⟨y,hy,rfl⟩:=List.mem_map.1 hk
  cases e:getW L y.1 with
  | some _=>rfl
  | none=>exact absurd rfl (getW_none.1 e y hy)
 ·intro hk
  obtain ⟨r,hr⟩:=Option.isSome_iff_exists.1 hk
  exact List.mem_map.2 ⟨_,getW_mem hr,rfl⟩
theorem keyB_fit {k:Ky} (h:keyB k.1 k.2=true):FitK k:=by
 unfold keyB at h
 rw [Bool.and_eq_true] at h
 have h1:=typeB_len h.1
 have h2:=idenB_len h.2
 have e1:k.1.size≤32:=by simpa using h1
 have e2:k.2.size≤32:=by simpa using h2
 unfold FitK maxLen
 omega
theorem nodup_len {s t:List Ky} (hs:s.Nodup) (h:∀k∈s,k∈t):s.length≤t.length:=by
 induction s generalizing t with
 | nil=>simp
 | cons k s ih =>
  obtain ⟨h1,h2⟩:=List.nodup_cons.1 hs
  obtain ⟨a,b,rfl⟩:=List.append_of_mem (h k List.mem_cons_self)
  have:=ih h2 (t:=a++b) fun x hx=>by
   have:=h x (List.mem_cons_of_mem _ hx)
   rw [List.mem_append,List.mem_cons] at this
   rw [List.mem_append]
   rcases this with h|rfl|h
   ·exact Or.inl h
   ·exact absurd hx h1
   ·exact Or.inr h
  simp only [List.length_append,List.length_cons] at this ⊢
  omega
set_option maxHeartbeats 1000000 in
theorem wkeys_gen {W:World} {r:Option Addr} {mp:Option Nat} {f:Ky→Option We} {c:Nat} {K0:List Ky} (hall:Calls Tryz.prog 170 #[.pointer r] W fun e w2=>e=.returned (.map mp)∧w2=W)
  (hq:SeqK (W.alloc (.cells #[.map mp] 243)) W.heap.size f c) (hn:c≤2400000000000) (hK:RisingR ltKy K0) (hin:∀k,(FitK k∧(f k).isSome=true)↔k∈K0) (hK0:K0.length≤2400000000000) :
  Calls Tryz.prog 105 #[.pointer r] W fun e w'=>KeysPost W K0 e w':=by
 have hMK:Calls Tryz.prog 172 #[.map mp] W fun e w'=>e=.returned (.func (.func 257) #[] #[.pointer (some ⟨W.heap.size,0,none⟩)])∧w'=W.alloc (.cells #[.map mp] 243):=by
  have hmf:∀(fn:Fn) (first cap:Array Value) (w:World),(Instr.makeFunc fn first cap).run Tryz.prog w=.ok (.func fn first cap) w:=fun _ _ _ _=>rfl
  go_enter Tryz.func172,Tryz.ntmps172
  go_wp2_with fail
  go_ret
  exact ⟨rfl,rfl⟩
 have hb1:Below W.heap.size W (W.alloc (.cells #[.map mp] 243)):=(Below.refl _ _).alloc (Nat.le_refl _) _
 have HSF:=hid (wsortedfunc_any hq hn fun ks hk hm=>by
  have:=nodup_len hk fun k hk=>(hin k).1 ((hm k).1 hk)
  omega)
 have HEQ:Hid (∀ks:List Ky,RisingR ltKy ks→(∀k,k∈ks↔FitK k∧(f k).isSome=true)→ks=K0):=fun ks hr hm=>rising_uniqR totK hr hK fun z=>(hm z).trans (hin z)
 have HAL:=hid hall
 have HMK:=hid hMK
 have HB1:=hid hb1
 clear hMK hb1 hin hall hq hK
 go_enter Tryz.func105,Tryz.ntmps105
 go_wp2_with fail
 refine HAL.out.mono ?_
 rintro e w0 ⟨rfl,rfl⟩
 go_wp2_with fail
 refine HMK.out.mono ?_
 rintro e w1 ⟨rfl,rfl⟩
 go_wp2_with fail
 refine HSF.out.mono ?_
 rintro e w2 ⟨u,ks,rfl,k1,k2,k3,k4⟩
 obtain rfl:=HEQ.out ks k2 k3
 have HP:Hid (KeysPost w0 ks (.returned u) w2):=⟨u,rfl,Kind.own_weak k1 (by simp),bel_then HB1.out HB1.out.size k4⟩
 obtain ⟨p,c,rfl⟩:=Kind.own_shape k1
 clear k1 k2 k3 k4
 go_wp2_with fail
 go_ret
 exact HP.out
theorem wkeys_any {n0:Nat} {W:World} {B:Nat→Prop} {g:Nat} {L:List RowW} (h:PrgW n0 W B g L) (hl:L.length≤1300000000000):Calls Tryz.prog 105 #[.pointer (some ⟨g,0,none⟩)] W fun e w'=>KeysPost W (keysW L) e w':=by
 obtain ⟨m,F,O,h⟩:=h
 have hb1:Below W.heap.size W (W.alloc (.cells #[.map (some m)] 243)):=(Below.refl _ _).alloc (Nat.le_refl _) _
 refine wkeys_gen (allW_is g m W h.cell) (SeqK.of (by simp [go_sem]) (h.on hb1).map) (by omega) ?_ (fun k=>?_) ?_
 ·unfold keysW
  exact List.pairwise_map.2 h.ok.rise
 ·rw [keys_there,fS_some]
  refine ⟨fun hk=>hk.2,fun hk=>⟨?_,hk⟩⟩
  obtain ⟨r,hr⟩:=Option.isSome_iff_exists.1 hk
  exact keyB_fit (h.ok.key _ (getW_mem hr))
 ·unfold keysW
  rw [List.length_map]
  omega
end
section
open Go.RowKit
theorem Tryz.infoC15:(Tryz.prog.info? 105).map (fun i=>(i.zero,i.size,i.bytes))=some (some (.agg #[.string ⟨#[]⟩,.string ⟨#[]⟩,.bool false,.slice none 0 0,.bool false,.slice none 0 0]),6,96):=by kernel_rfl
set_option linter.unusedSimpArgs false in
set_option maxHeartbeats 4000000 in
set_option maxRecDepth 100000 in
theorem xeachC_any {W : World} {g : Nat} (F : Ky → Ch) (v : Value) (ks : List Ky) (hv : KK.Is W v ks) (hl : ks.length ≤ 1400000000000)
    (hk : ∀ w', Below W.heap.size W w' → ∀ k ∈ ks, Calls Tryz.prog 106 #[.pointer (some ⟨g, 0, none⟩), .agg #[.string k.1, .string k.2]] w' fun e w2 => ChgPost w' (F k) e w2) :
    Calls Tryz.prog 104 #[v, .func (.func 106) #[.pointer (some ⟨g, 0, none⟩)] #[]] W fun e w' => ChPost W (ks.map F) e w' := by
  obtain ⟨i0, hi0, hz0, hz1, hz2⟩ := info_parts Tryz.infoC15
  have HI0 := hid hi0
  obtain ⟨pf, cf, rfl, hat⟩ := hv
  have HAT := hid hat
  have HK := hid hk
  have HST0 : Hid (CcSt W [] none 0 W ∧ ([] : List Cx).map Cx.ch = (ks.map F).take 0) := ⟨CcSt.nil W, rfl⟩
  clear hi0 hat hk
  go_enter Tryz.func104, Tryz.ntmps104
  go_wp2_with fail
  go_loopg [5, 10] ks.length (fun gg v5 vi wr => ∃ (i : Nat) (p : Option Addr) (c : Nat) (L : List Cx), vi = .int .i64 i ∧ v5 = .slice p L.length c ∧ i ≤ ks.length ∧ ks.length - i ≤ gg ∧ L.length ≤ i ∧ Hid (CcSt W L p c wr ∧ L.map Cx.ch = (ks.map F).take i))
  case atStart => exact ⟨0, none, 0, [], rfl, rfl, by omega, by omega, by simp, HST0.out⟩
  case round =>
    clear HST0
    obtain ⟨i, p, c, L, rfl, rfl, hi, hgk, hLi, HI⟩ := hrel
    by_cases hlt : i < ks.length
    · have hltz : (i : Int) < (ks.length : Int) := by omega
      have hiz : (0 : Int) ≤ i := by omega
      have hbw : Below W.heap.size W wr := HI.out.1.row.bel
      obtain ⟨b1, o1, rfl, k1⟩ : ∃ b off, pf = some ⟨b, off, none⟩ ∧ KK.At W b off ks := by
        rcases HAT.out with h | h
        · rw [h] at hlt; simp at hlt
        · exact h
      obtain ⟨y0, y1⟩ := kk_at (Kind.at_kept k1 hbw) i hlt
      have htk : (ks.map F).take (i + 1) = (ks.map F).take i ++ [F ks[i]] := by
        rw [List.take_succ_eq_append_getElem (by rw [List.length_map]; exact hlt), List.getElem_map]
      have HTK := hid htk
      have hmem := List.getElem_mem hlt
      have HMEM := hid hmem
      clear htk k1 hmem
      generalize ks[i] = k at *
      obtain ⟨O, hO⟩ : ∃ O, wr.heap.size = O := ⟨_, rfl⟩
      obtain ⟨V0, hV0⟩ : ∃ V0, wr.alloc (.cells #[.string ⟨#[]⟩, .string ⟨#[]⟩] 39) = V0 := ⟨_, rfl⟩
      have hv0 : V0.heap[O]? = some (.cells #[.string ⟨#[]⟩, .string ⟨#[]⟩] 39 (0, 0)) := by rw [← hV0, ← hO]; exact heap_alloc_new wr _
      obtain ⟨V, hV⟩ : ∃ V, (V0.setCell ⟨O, 0, none⟩ (.string k.1)).setCell ⟨O, 1, none⟩ (.string k.2) = V := ⟨_, rfl⟩
      have hvo : V.heap[O]? = some (.cells #[.string k.1, .string k.2] 39 (0, 0)) := by
        rw [← hV]
        exact heap_setCell_same _ O 1 _ _ _ (heap_setCell_same _ O 0 _ _ _ hv0)
      have hbV : Below wr.heap.size wr V := by
        rw [← hV, hO]
        have q0 : Below O wr V0 := by rw [← hV0, ← hO]; exact (Below.refl _ _).alloc (Nat.le_refl _) _
        exact (q0.setCell (by simp) _).setCell (by simp) _
      have s0 : V0.cell? ⟨O, 0, none⟩ = some (.string ⟨#[]⟩) := cz hv0
      have s1 : V0.cell? ⟨O, 1, none⟩ = some (.string ⟨#[]⟩) := cz hv0
      have r0 := Lib.frozen_of_heap hv0 0
      have r1 := Lib.frozen_of_heap hv0 1
      have t0 : V.cell? ⟨O, 0, none⟩ = some (.string k.1) := cz hvo
      have t1 : V.cell? ⟨O, 1, none⟩ = some (.string k.2) := cz hvo
      have HKC := hid (HK.out V (bel_then hbw hbw.size hbV) k HMEM.out)
      have HBV := hid hbV
      obtain ⟨FK, hFK⟩ : ∃ FK, F k = FK := ⟨_, rfl⟩
      rw [hFK] at HKC HTK
      obtain ⟨ka, kb⟩ := k
      simp only at *
      clear hbw hbV hv0 hvo hFK HMEM
      go_upto_region 5 with fail
      try rw [hO]
      try rw [hV0]
      try rw [hV]
      clear y0 y1 s0 s1 r0 r1 hV hV0
      go_wp2_with fail
      refine HKC.out.mono ?_
      rintro e2 w2 ⟨z, rfl, hzo, hzc, hb2⟩
      have hb2' : Below wr.heap.size wr w2 := bel_then HBV.out HBV.out.size hb2
      obtain ⟨B, hB⟩ : ∃ B, w2.heap.size = B := ⟨_, rfl⟩
      obtain ⟨W3, hW3⟩ : ∃ W3, w2.alloc (.cells (encCx z).toArray 105) = W3 := ⟨_, rfl⟩
      have hb3 : Below w2.heap.size w2 W3 := by rw [← hW3]; exact (Below.refl _ _).alloc (Nat.le_refl _) _
      have HBX : Hid (W3.heap[B]? = some (.cells (KCx.enc z).toArray 105 (0, 0))) := by
        show _ = _
        rw [← hW3, ← hB]
        exact heap_alloc_new w2 _
      have h3 : Below wr.heap.size wr W3 := bel_then hb2' hb2'.size hb3
      have HS3 := hid (HI.out.1.on h3)
      have HZO := hid (hzo.on hb3)
      have HZV : Hid (wr.heap.size ≤ V.heap.size ∧ W.heap.size ≤ wr.heap.size) := ⟨HBV.out.size, HI.out.1.row.base⟩
      have HNX : Hid (∀ (g' c' : Nat) (w4 : World), RowSt KCx W.heap.size W (.slice (some ⟨g', 0, none⟩) (L.length + 1) c') (L ++ [z]) w4 → W3.grownBy w4 (Value.slice p L.length c).ownBlock → ((Value.slice p L.length c).ownBlock = some g' ∨ g' = W3.heap.size) → CcSt W (L ++ [z]) (some ⟨g', 0, none⟩) c' w4 ∧ (L ++ [z]).map Cx.ch = (ks.map F).take (i + 1)) := fun g' c' w4 r1 r2 r3 => by
        refine ⟨HS3.out.push (HZO.out.weak (by have := HZV.out; omega)) ⟨HZO.out.wcp, HZO.out.icp⟩ (fun b hb => ?_) r1 r2 r3, ?_⟩
        · have e1 := (HZO.out.blk b hb).1
          have e2 := HZV.out
          refine ⟨fun e => ?_, fun y hy hyb => ?_⟩
          · have := (World.ownsRow.lt (show wr.ownsRow W.heap.size KCx.T KCx.k (.slice p L.length c) L.length (KCx.cells L) from HI.out.1.row.own) b e).2
            omega
          · have := ((HI.out.1.each y hy).1.blk b hyb).2
            omega
        · rw [List.map_append, HI.out.2, HTK.out, ← hzc]
          rfl
      have HRW := hid HS3.out.row
      clear hzo hb2 hb2' hb3 h3 HKC
      obtain ⟨za, zb, zwl, zwp, zwc, zwo, zil, zip, zic, zio⟩ := z
      simp only [encCx] at *
      go_wp2_with (first
        | (at_builtin
           (try rw [hB]); (try rw [hW3])
           refine wpList_push KCx rfl _ _ 54 rfl i0 _ 96 Tryz.underlying54 HI0.out hz0 hz1 hz2 rfl W.heap.size W (.slice p L.length c) L rfl HRW.out ⟨za, zb, zwl, zwp, zwc, zwo, zil, zip, zic, zio⟩ B 1 1 rfl rfl _ _ HBX.out (by unfold maxLen; omega) (by omega) ?_
           intro g3 c3 w3 r1 r2 r3
           have HN3 := hid (HNX.out g3 c3 w3 r1 r2 r3)
           clear r1 r2 r3)
        | fail)
      have hln : (L ++ [(⟨za, zb, zwl, zwp, zwc, zwo, zil, zip, zic, zio⟩ : Cx)]).length = L.length + 1 := by simp
      go_roundg (ks.length - (i + 1))
      case measure => omega
      exact ⟨i + 1, some ⟨g3, 0, none⟩, c3, L ++ [(⟨za, zb, zwl, zwp, zwc, zwo, zil, zip, zic, zio⟩ : Cx)], by go_num, by rw [hln], by omega, by omega, by rw [hln]; omega, HN3.out⟩
    · have hltz : ¬ (i : Int) < (ks.length : Int) := by omega
      have hil : i = ks.length := by omega
      have HFIN : Hid (ChPost W (ks.map F) (.returned (.slice p L.length c)) wr) := by
        have e : (ks.map F).take i = ks.map F := List.take_of_length_le (by rw [List.length_map]; omega)
        refine ⟨p, c, L, rfl, HI.out.1.row.own, HI.out.1.each, HI.out.1.apart, by rw [HI.out.2, e], HI.out.1.row.bel⟩
      clear HI
      go_wp2_with fail
      go_ret
      exact HFIN.out
def XsC (n0 nr:Nat) (W:World) (h:Nat) (gs:List Nat) (c:Nat→Nat) (l:List Ch) (S':Sv) (e:Ending) (w':World):Prop:=ChPost W l e w'∧StepN n0 nr W h gs c S' W.heap.size w'
theorem changes_is {D:List RowD} {x:Tx} (h:OkW x.wr) (he:x.ended=false):changesS D x=(keysW x.wr).map fun k=>⟨k,((oldS D x.snap k).getD zeroV).live,((oldS D x.snap k).getD zeroV).val,liveW (getW x.wr k),valW (getW x.wr k)⟩:=by
 unfold changesS
 rw [he,if_neg (by decide)]
 unfold keysW
 rw [List.map_map]
 refine List.map_congr_left fun y hy=>?_
 show chgS D x.snap y=Ch.mk y.1 _ _ (liveW (getW x.wr y.1)) (valW (getW x.wr y.1))
 rw [getW_of h.rise hy]
 rfl
set_option maxHeartbeats 2000000 in
set_option maxRecDepth 100000 in
theorem xchanges_any {n0 nr:Nat} {W:World} {s:Ps} {c:Nat→Nat} (x:PrgB n0 W s c) (f:FitS nr s) (hn:nr≤1300000000000) {i:Nat} {y:Px} (hy:s.xs[i]? = some y) :
  Calls Tryz.prog 34 #[.pointer (some ⟨y.g,0,none⟩)] W fun e w'=>XsC n0 nr W s.h (s.xs.map Px.g) c (changesS s.D y.tx) s.sv e w':=by
 have HE:=hid (x.endis hy W (Below.refl _ _))
 have HFIN:Hid (∀e w',ChPost W (changesS s.D y.tx) e w'→XsC n0 nr W s.h (s.xs.map Px.g) c (changesS s.D y.tx) s.sv e w'):=fun e w' q=>by
  have hb:Below W.heap.size W w':=by
   obtain ⟨_,_,_,_,_,_,_,_,hb⟩:=q
   exact hb
  exact ⟨q,(Mid.start x f (Nat.le_refl nr) hb).stepN rfl (Nat.le_refl _) x.out⟩
 cases hE:y.ended with
 | true =>
  have hch:changesS s.D y.tx=[]:=by
   unfold changesS
   rw [if_pos (show y.tx.ended=true from hE)]
  rw [hE] at HE
  have HF2:=hid (HFIN.out (.returned (.slice none 0 0)) W (by rw [hch];exact ⟨none,0,[],rfl,Kind.own_nil _ _ _,(fun _ h=>by cases h),List.Pairwise.nil,rfl,Below.refl _ _⟩))
  generalize changesS s.D y.tx=CH at *
  generalize y.g=g at *
  clear x f hy hE hn hch HFIN
  go_enter Tryz.func34,Tryz.ntmps34
  go_wp2_with fail
  refine HE.out.mono ?_
  rintro e1 w1 ⟨rfl,rfl⟩
  go_wp2_with fail
  go_ret
  exact HF2.out
 | false =>
  rw [hE] at HE
  have xa:=x.xat hy hE
  obtain ⟨_,_,_,x3,_⟩:=xa.xc
  obtain ⟨B,hw,hB⟩:=x.wrt hy hE
  have hlod:=f.lod hy hE
  have hok:OkW y.L:=(f.okw hy).wr
  have HKS:=hid (wkeys_any hw (by omega))
  have hch:=changes_is (D:=s.D) hok (show y.tx.ended=false from hE)
  have HEA:Hid (∀w1 u,KK.Own W.heap.size w1 u (keysW y.L)→Below W.heap.size W w1→Calls Tryz.prog 104 #[u,.func (.func 106) #[.pointer (some ⟨y.g,0,none⟩)] #[]] w1 fun e w'=>ChPost W (changesS s.D y.tx) e w'):=fun w1 u hu hb=>by
   refine (xeachC_any (g:=y.g) (fun k=>⟨k,((oldS s.D y.snap k).getD zeroV).live,((oldS s.D y.snap k).getD zeroV).val,liveW (getW y.L k),valW (getW y.L k)⟩) u (keysW y.L) (Kind.own_is hu) (by unfold keysW;rw [List.length_map];omega) fun w' hb' k hk=>?_).mono fun e w' q=>?_
   ·have hbw:Below W.heap.size W w':=bel_then hb hb.size hb'
    refine xchange_any (xa.on hbw) (x.dirS.on hbw) (n0:=n0) (B:=B) (by obtain ⟨m,F,O,hq⟩:=hw;exact ⟨m,F,O,hq.on hbw⟩) k ?_
    unfold keysW at hk
    obtain ⟨r,hr,rfl⟩:=List.mem_map.1 hk
    exact key_fit (hok.key r hr)
   ·rw [hch]
    obtain ⟨p,c',cs,q1,q2,q3,q4,q5,q6⟩:=q
    refine ⟨p,c',cs,q1,Kind.own_weak q2 hb.size,fun z hz=>⟨(q3 z hz).1.weak hb.size,(q3 z hz).2⟩,q4,q5,bel_then hb hb.size q6⟩
  generalize changesS s.D y.tx=CH at *
  generalize y.g=g at *
  generalize y.gw=gw at *
  clear x f hy hE hn xa hw hB hlod hok hch
  go_enter Tryz.func34,Tryz.ntmps34
  go_wp2_with fail
  refine HE.out.mono ?_
  rintro e1 w1 ⟨rfl,rfl⟩
  go_wp2_with fail
  refine HKS.out.mono ?_
  rintro e2 w2 ⟨u,rfl,hu,hb2⟩
  have HE2:=hid (HEA.out w2 u hu hb2)
  clear hu hb2 HEA HKS
  go_wp2_with fail
  refine HE2.out.mono ?_
  rintro e3 w3 hq
  have HQ:=hid (HFIN.out e3 w3 hq)
  obtain ⟨p,c',cs,rfl,_⟩:=hq
  clear HFIN HE2
  go_wp2_with fail
  go_ret
  exact HQ.out
end
section
open Go.RowKit
set_option linter.unusedSimpArgs false in
set_option maxHeartbeats 8000000 in
set_option maxRecDepth 100000 in
theorem xovertaken_any {n0 n:Nat} {D:List RowD} {W:World} {g:Nat} {snap id:Int} {h gw:Nat} {ks rs:Value} {hd hs hc hq ht:Nat} {vers:Int} (x:XAt W g snap id h gw ks rs hd hs hc hq ht vers) (hD:DirS n0 hd n D W) (k:Ky) (hk:FitK k) :
  Calls Tryz.prog 147 #[.pointer (some ⟨g,0,none⟩),.agg #[.string k.1,.string k.2]] W fun e w'=>e=.returned (.bool (decide (snap<(lastV (ofD D k)).stamp)))∧Below W.heap.size W w':=by
 obtain ⟨V,hV⟩:∃V,W.alloc (.cells #[.string k.1,.string k.2] 39)=V:=⟨_,rfl⟩
 obtain ⟨Q,hQ⟩:∃Q,W.heap.size=Q:=⟨_,rfl⟩
 have h1:V.heap[Q]? = some (.cells #[.string k.1,.string k.2] 39 (0,0)):=by rw [←hV,←hQ];exact heap_alloc_new W _
 have hb0:Below W.heap.size W V:=by rw [←hV];exact (Below.refl _ _).alloc (Nat.le_refl _) _
 have HV:=hid hb0
 have xv:=x.on hb0
 obtain ⟨x0,_,x2,_⟩:=xv.xc
 obtain ⟨s0,_⟩:=xv.sc
 have a0:V.cell? ⟨Q,0,none⟩=some (.string k.1):=cz h1
 have a1:V.cell? ⟨Q,1,none⟩=some (.string k.2):=cz h1
 have HS:Hid (∀W',Below V.heap.size V W'→W'.cell? ⟨Q,0,none⟩=some (.string k.1)∧W'.cell? ⟨Q,1,none⟩=some (.string k.2)∧W'.cell? ⟨g,0,none⟩=some (.int .u64 snap)∧W'.cell? ⟨g,2,none⟩=some (.pointer (some ⟨h,0,none⟩))∧W'.cell? ⟨h,0,none⟩=some (.pointer (some ⟨hd,0,none⟩))):=fun W' hb =>
  ⟨(hb.cell (cell_block a0)).trans a0,(hb.cell (cell_block a1)).trans a1,(hb.cell (cell_block x0)).trans x0,(hb.cell (cell_block x2)).trans x2,(hb.cell (cell_block s0)).trans s0⟩
 have HPC:Hid (∀W1,Below V.heap.size V W1→Calls Tryz.prog 228 #[.pointer (some ⟨hd,0,none⟩),.agg #[.string k.1,.string k.2]] W1 fun e w'=>VAns W1 (ofD D k).getLast? e w'):=fun W1 hb=>s_last ((hD.on hb0).on hb) k hk
 have hS0:=HS.out V (Below.refl _ _)
 have HLV:Hid (∀y:Vx,y.ver=(ofD D k).getLast?.getD zeroV→y.stamp=(lastV (ofD D k)).stamp):=fun y hy=>by
  have e:y.ver.stamp=y.stamp:=rfl
  rw [←e,hy]
  rfl
 generalize (lastV (ofD D k)).stamp=LS at *
 generalize (ofD D k).getLast? = o at *
 obtain ⟨ka,kb⟩:=k
 simp only at *
 clear x hD hk xv h1 hb0 a0 a1 x0 x2 s0
 go_enter Tryz.func147,Tryz.ntmps147
 go_upto_region 1 with fail
 try rw [hV]
 try rw [hQ]
 clear hV hQ
 go_cut [5,6] from 7 (fun v5 v6 wx=>∃X,v5=.pointer (some ⟨X,0,none⟩)∧v6=.bool o.isSome∧Hid (wx.cell? ⟨X,1,none⟩=some (.int .u64 LS)∧Below V.heap.size V wx))
 case first =>
  refine wp_region_held_drew (S:=fun w'=>w'.cell? ⟨Q,0,none⟩=some (.string ka)∧w'.cell? ⟨Q,1,none⟩=some (.string kb)∧w'.cell? ⟨g,0,none⟩=some (.int .u64 snap)∧w'.cell? ⟨g,2,none⟩=some (.pointer (some ⟨h,0,none⟩))∧w'.cell? ⟨h,0,none⟩=some (.pointer (some ⟨hd,0,none⟩))) (by kernel_rfl) hS0 (fun hHeld=>?_)
  refine tkv 0 (.pointer (some ⟨g,0,none⟩)) hHeld ?_
  simp only [Act.put,sz]
  refine tkv 1 (.pointer (some ⟨g,0,none⟩)) hHeld ?_
  simp only [Act.put,sz]
  refine tkv 2 (.pointer (some ⟨g,2,none⟩)) hHeld ?_
  simp only [Act.put,sz]
  refine tkv 3 (.pointer (some ⟨h,0,none⟩)) hHeld ?_
  simp only [Act.put,sz]
  refine tkv 4 (.pointer (some ⟨h,0,none⟩)) hHeld ?_
  simp only [Act.put,sz]
  refine tkv 5 (.pointer (some ⟨h,0,none⟩)) hHeld ?_
  simp only [Act.put,sz]
  refine tkv 6 (.pointer (some ⟨h,0,none⟩)) hHeld ?_
  simp only [Act.put,sz]
  refine tkv 7 (.pointer (some ⟨hd,0,none⟩)) hHeld ?_
  simp only [Act.put,sz]
  refine tkv 8 (.agg #[.string ka,.string kb]) hHeld ?_
  simp only [Act.put,sz]
  clear hHeld hS0
  have HB0:Hid (Below V.heap.size V V.drew):=bel_drewN (Below.refl _ V) 1
  generalize V.drew=V1 at *
  refine wpAnyH_ready (rs:=[9,13]) (by kernel_rfl) (by simp) ?_
  refine AllReadyH.cons (at_drop0 rfl) (fun K hK=>?_) (AllReadyH.cons (at_drop0 rfl) (fun K hK=>?_) AllReadyH.nil)
  ·rw [if_pos (by rfl)]
   go_simp
   refine (HPC.out V1 HB0.out).mono ?_
   rintro e w2 ⟨y,rfl,hyv,hyj,hb2⟩
   have HB2:Hid (Below V.heap.size V w2):=bel_then HB0.out HB0.out.size hb2
   have HYS:=hid (HLV.out y hyv)
   have hS2:=HS.out w2 HB2.out
   clear hyv hyj hb2 HLV
   obtain ⟨yn,ys,yt,yl,yp,yc,yo⟩:=y
   simp only [encVx,Vx.sl] at *
   go_wp2_with fail
   refine hK.out _ _ hS2 (fun hHeld=>?_)
   clear hK K
   try simp only [Act.put,sz]
   clear hS2
   refine tkv 10 (.tuple #[.agg #[.int .i64 yn,.int .u64 ys,.int .i64 yt,.bool yl,.slice yp yo.length yc],.bool o.isSome]) hHeld ?_
   simp only [Act.put,sz]
   refine tkv 11 (.agg #[.int .i64 yn,.int .u64 ys,.int .i64 yt,.bool yl,.slice yp yo.length yc]) hHeld ?_
   simp only [Act.put,sz]
   refine tkv 12 (.bool o.isSome) hHeld ?_
   simp only [Act.put,sz]
   refine wpAnyH_ready (rs:=[13]) (by kernel_rfl) (by simp) ?_
   refine AllReadyH.cons (at_drop0 rfl) (fun K hK=>?_) AllReadyH.nil
   rw [if_pos (by rfl)]
   go_simp
   obtain ⟨X,hX⟩:∃X,w2.heap.size=X:=⟨_,rfl⟩
   obtain ⟨W3,hW3⟩:∃W3,w2.alloc (.cells #[.int .i64 0,.int .u64 0,.int .i64 0,.bool false,.slice none 0 0] 46)=W3:=⟨_,rfl⟩
   have hal:Below w2.heap.size w2 W3:=by rw [←hW3];exact (Below.refl _ _).alloc (Nat.le_refl _) _
   have HXB:Hid (W3.heap[X]? = some (.cells #[.int .i64 0,.int .u64 0,.int .i64 0,.bool false,.slice none 0 0] 46 (0,0))):=by show _=_;rw [←hW3,←hX];exact heap_alloc_new w2 _
   have HXL:Hid (V.heap.size≤X∧X<W3.heap.size):=⟨by rw [←hX];exact HB2.out.size,(Array.getElem?_eq_some_iff.1 HXB.out).1⟩
   have HB3:Hid (Below V.heap.size V W3):=bel_then HB2.out HB2.out.size hal
   have HAL:=hid hal
   have hSa:=HS.out W3 HB3.out
   clear hal
   go_wp2_with fail
   try rw [hX]
   try rw [hW3]
   refine hK.out _ _ hSa (fun hHeld=>?_)
   clear hK K
   try simp only [Act.put,sz]
   clear hSa hX hW3
   have hz:=HXB.out
   obtain ⟨WZ,hWZ⟩:∃WZ,(((((W3.setCell ⟨X,0,none⟩ (.int .i64 yn)).setCell ⟨X,1,none⟩ (.int .u64 ys)).setCell ⟨X,2,none⟩ (.int .i64 yt)).setCell ⟨X,3,none⟩ (.bool yl)).setCell ⟨X,4,none⟩ (.slice yp yo.length yc))=WZ:=⟨_,rfl⟩
   obtain ⟨hbz,fz⟩:=put_ver hz ⟨yn,ys,yt,yl,yp,yc,yo⟩ WZ hWZ
   have y0:W3.cell? ⟨X,0,none⟩=some (.int .i64 0):=cz hz
   have z0:=Lib.frozen_of_heap hz 0
   have y1:W3.cell? ⟨X,1,none⟩=some (.int .u64 0):=cz hz
   have z1:=Lib.frozen_of_heap hz 1
   have y2:W3.cell? ⟨X,2,none⟩=some (.int .i64 0):=cz hz
   have z2:=Lib.frozen_of_heap hz 2
   have y3:W3.cell? ⟨X,3,none⟩=some (.bool false):=cz hz
   have z3:=Lib.frozen_of_heap hz 3
   have y4:W3.cell? ⟨X,4,none⟩=some (.slice none 0 0):=cz hz
   have z4:=Lib.frozen_of_heap hz 4
   have HBZ:Hid (Below V.heap.size V WZ):=HB3.out.trans (fz.below HB3.out.size fun k hk=>by have:=HXL.out;omega)
   have HFIN:Hid (WZ.cell? ⟨X,1,none⟩=some (.int .u64 LS)∧Below V.heap.size V WZ):=⟨by rw [←HYS.out,Lib.cell_of_heap hbz];rfl,HBZ.out⟩
   have hSz:=HS.out WZ HBZ.out
   clear hbz fz hz
   refine wpAnyH_ready (rs:=[14]) (by kernel_rfl) (by simp) ?_
   refine AllReadyH.cons (at_drop0 rfl) (fun K hK=>?_) AllReadyH.nil
   rw [if_pos (by rfl)]
   go_simp
   go_wp2_with fail
   try rw [hWZ]
   refine hK.out _ _ hSz (fun hHeld=>?_)
   clear hK K
   try simp only [Act.put,sz]
   clear hSz
   refine tkv 15 (.bool o.isSome) hHeld ?_
   simp only [Act.put,sz]
   refine wpAnyH_done (by kernel_rfl) ?_ _
   clear y0 y1 y2 y3 y4 z0 z1 z2 z3 z4 hWZ
   go_wp2_with fail
   go_meet
   exact ⟨X,rfl,rfl,HFIN.out⟩
  ·rw [if_pos (by rfl)]
   go_simp
   obtain ⟨X,hX⟩:∃X,V1.heap.size=X:=⟨_,rfl⟩
   obtain ⟨W3,hW3⟩:∃W3,V1.alloc (.cells #[.int .i64 0,.int .u64 0,.int .i64 0,.bool false,.slice none 0 0] 46)=W3:=⟨_,rfl⟩
   have hal:Below V1.heap.size V1 W3:=by rw [←hW3];exact (Below.refl _ _).alloc (Nat.le_refl _) _
   have HXB:Hid (W3.heap[X]? = some (.cells #[.int .i64 0,.int .u64 0,.int .i64 0,.bool false,.slice none 0 0] 46 (0,0))):=by show _=_;rw [←hW3,←hX];exact heap_alloc_new V1 _
   have HXL:Hid (V.heap.size≤X∧X<W3.heap.size):=⟨by rw [←hX];exact HB0.out.size,(Array.getElem?_eq_some_iff.1 HXB.out).1⟩
   have HB3:Hid (Below V.heap.size V W3):=bel_then HB0.out HB0.out.size hal
   have HAL:=hid hal
   have hSa:=HS.out W3 HB3.out
   clear hal
   go_wp2_with fail
   try rw [hX]
   try rw [hW3]
   refine hK.out _ _ hSa (fun hHeld=>?_)
   clear hK K
   try simp only [Act.put,sz]
   clear hSa hX hW3
   refine wpAnyH_ready (rs:=[9]) (by kernel_rfl) (by simp) ?_
   refine AllReadyH.cons (at_drop0 rfl) (fun K hK=>?_) AllReadyH.nil
   rw [if_pos (by rfl)]
   go_simp
   refine (HPC.out W3 HB3.out).mono ?_
   rintro e w2 ⟨y,rfl,hyv,hyj,hb2⟩
   have HB2:Hid (Below V.heap.size V w2):=bel_then HB3.out HB3.out.size hb2
   have HX2:=hid ((hb2.block X HXL.out.2).trans HXB.out)
   have HYS:=hid (HLV.out y hyv)
   have hS2:=HS.out w2 HB2.out
   clear hyv hyj hb2 HLV
   obtain ⟨yn,ys,yt,yl,yp,yc,yo⟩:=y
   simp only [encVx,Vx.sl] at *
   go_wp2_with fail
   refine hK.out _ _ hS2 (fun hHeld=>?_)
   clear hK K
   try simp only [Act.put,sz]
   clear hS2
   refine tkv 10 (.tuple #[.agg #[.int .i64 yn,.int .u64 ys,.int .i64 yt,.bool yl,.slice yp yo.length yc],.bool o.isSome]) hHeld ?_
   simp only [Act.put,sz]
   refine tkv 11 (.agg #[.int .i64 yn,.int .u64 ys,.int .i64 yt,.bool yl,.slice yp yo.length yc]) hHeld ?_
   simp only [Act.put,sz]
   refine tkv 12 (.bool o.isSome) hHeld ?_
   simp only [Act.put,sz]
   have hz:=HX2.out
   obtain ⟨WZ,hWZ⟩:∃WZ,(((((w2.setCell ⟨X,0,none⟩ (.int .i64 yn)).setCell ⟨X,1,none⟩ (.int .u64 ys)).setCell ⟨X,2,none⟩ (.int .i64 yt)).setCell ⟨X,3,none⟩ (.bool yl)).setCell ⟨X,4,none⟩ (.slice yp yo.length yc))=WZ:=⟨_,rfl⟩
   obtain ⟨hbz,fz⟩:=put_ver hz ⟨yn,ys,yt,yl,yp,yc,yo⟩ WZ hWZ
   have y0:w2.cell? ⟨X,0,none⟩=some (.int .i64 0):=cz hz
   have z0:=Lib.frozen_of_heap hz 0
   have y1:w2.cell? ⟨X,1,none⟩=some (.int .u64 0):=cz hz
   have z1:=Lib.frozen_of_heap hz 1
   have y2:w2.cell? ⟨X,2,none⟩=some (.int .i64 0):=cz hz
   have z2:=Lib.frozen_of_heap hz 2
   have y3:w2.cell? ⟨X,3,none⟩=some (.bool false):=cz hz
   have z3:=Lib.frozen_of_heap hz 3
   have y4:w2.cell? ⟨X,4,none⟩=some (.slice none 0 0):=cz hz
   have z4:=Lib.frozen_of_heap hz 4
   have HBZ:Hid (Below V.heap.size V WZ):=HB2.out.trans (fz.below HB2.out.size fun k hk=>by have:=HXL.out;omega)
   have HFIN:Hid (WZ.cell? ⟨X,1,none⟩=some (.int .u64 LS)∧Below V.heap.size V WZ):=⟨by rw [←HYS.out,Lib.cell_of_heap hbz];rfl,HBZ.out⟩
   have hSz:=HS.out WZ HBZ.out
   clear hbz fz hz
   refine wpAnyH_ready (rs:=[14]) (by kernel_rfl) (by simp) ?_
   refine AllReadyH.cons (at_drop0 rfl) (fun K hK=>?_) AllReadyH.nil
   rw [if_pos (by rfl)]
   go_simp
   go_wp2_with fail
   try rw [hWZ]
   refine hK.out _ _ hSz (fun hHeld=>?_)
   clear hK K
   try simp only [Act.put,sz]
   clear hSz
   refine tkv 15 (.bool o.isSome) hHeld ?_
   simp only [Act.put,sz]
   refine wpAnyH_done (by kernel_rfl) ?_ _
   clear y0 y1 y2 y3 y4 z0 z1 z2 z3 z4 hWZ
   go_wp2_with fail
   go_meet
   exact ⟨X,rfl,rfl,HFIN.out⟩
 case rest =>
  obtain ⟨X,rfl,rfl,HC⟩:=hcut
  obtain ⟨c1,hbc⟩:=HC.out
  obtain ⟨_,_,t0,_,_⟩:=HS.out wc hbc
  have HB:=hid (bel_then HV.out HV.out.size hbc)
  clear hbc HC HS HPC HLV hS0
  go_upto_region 2 with fail
  refine wp_region_held_drew (S:=fun w'=>w'.cell? ⟨X,1,none⟩=some (.int .u64 LS)∧w'.cell? ⟨g,0,none⟩=some (.int .u64 snap)) (by kernel_rfl) ⟨c1,t0⟩ (fun hHeld=>?_)
  refine tkv 0 (.pointer (some ⟨X,1,none⟩)) hHeld ?_
  simp only [Act.put,sz]
  refine tkv 1 (.int .u64 LS) hHeld ?_
  simp only [Act.put,sz]
  refine tkv 2 (.pointer (some ⟨g,0,none⟩)) hHeld ?_
  simp only [Act.put,sz]
  refine tkv 3 (.pointer (some ⟨g,0,none⟩)) hHeld ?_
  simp only [Act.put,sz]
  refine tkv 4 (.pointer (some ⟨g,0,none⟩)) hHeld ?_
  simp only [Act.put,sz]
  refine tkv 5 (.int .u64 snap) hHeld ?_
  simp only [Act.put,sz]
  refine tkv 6 (.bool (decide (snap<LS))) hHeld ?_
  simp only [Act.put,sz]
  refine tkv 7 (.bool (decide (snap<LS))) hHeld ?_
  simp only [Act.put,sz]
  refine wpAnyH_done (by kernel_rfl) ?_ _
  go_wp2_with fail
  go_ret
  exact ⟨rfl,HB.out.drew⟩
set_option maxHeartbeats 4000000 in
set_option maxRecDepth 100000 in
theorem idxOv_any {g:Nat} (f:Ky→Bool) (v:Value) (l:List Ky) (w:World) (hv:KK.Is w v l) (hl:l.length≤9000000000000000000)
  (hk:∀(W:World) (x:Ky),Below w.heap.size w W→x∈l→Calls Tryz.prog 147 #[.pointer (some ⟨g,0,none⟩),.agg #[.string x.1,.string x.2]] W fun e w'=>e=.returned (.bool (f x))∧Below W.heap.size W w') :
  Calls Tryz.prog 227 #[v,.func (.func 147) #[.pointer (some ⟨g,0,none⟩)] #[]] w fun e w'=>(∃n:Int,e=.returned (.int .i64 n)∧decide (n≥0)=l.any f)∧Below w.heap.size w w':=by
 obtain ⟨p,cap,rfl,hd⟩:=hv
 have HD:=hid hd
 have HK:=hid hk
 clear hd hk
 go_enter Tryz.func227,Tryz.ntmps227
 go_wp2_with fail
 go_loopg [8] l.length (fun gg vi wr=>∃i:Nat,vi=.int .i64 i∧i≤l.length∧l.length-i≤gg∧Hid (Below w.heap.size w wr∧∀x∈l.take i,f x=false))
 case atStart=>exact ⟨0,rfl,by omega,by omega,Below.refl _ _,fun x hx=>by simp at hx⟩
 case round =>
  obtain ⟨i,rfl,hi,hgk,HI⟩:=hrel
  by_cases hlt:i<l.length
  ·have hltz:(i:Int)<(l.length:Int):=by omega
   have hiz:(0:Int)≤i:=by omega
   obtain ⟨b1,o1,rfl,k1⟩:∃b off,p=some ⟨b,off,none⟩∧KK.At w b off l:=by
    rcases HD.out with h|h
    ·rw [h] at hlt;simp at hlt
    ·exact h
   obtain ⟨y0,y1⟩:=kk_at (Kind.at_kept k1 HI.out.1) i hlt
   have hmem:l[i]∈l:=List.getElem_mem hlt
   have htk:l.take (i+1)=l.take i++[l[i]]:=List.take_succ_eq_append_getElem hlt
   have HC:=hid (HK.out wr l[i] HI.out.1 hmem)
   have HNO:Hid (f l[i]=false→∀x∈l.take (i+1),f x=false):=fun h x hx=>by
    rw [htk] at hx
    rcases List.mem_append.1 hx with hx|hx
    ·exact HI.out.2 x hx
    ·rw [List.mem_singleton.1 hx];exact h
   have HYES:Hid (f l[i]=true→l.any f=true):=fun h=>List.any_eq_true.2 ⟨_,hmem,h⟩
   have HB:=hid HI.out.1
   clear HI k1 hmem htk
   generalize l[i]=x at *
   cases hq:f x with
   | true =>
    rw [hq] at HC
    have HY:=hid (HYES.out hq)
    clear HNO HYES hq
    go_wp2_with fail
    refine HC.out.mono ?_
    rintro e w1 ⟨rfl,hb1⟩
    have HB1:=hid (bel_then HB.out HB.out.size hb1)
    clear hb1
    go_wp2_with fail
    go_ret
    exact ⟨⟨i,rfl,by rw [HY.out];exact decide_eq_true hiz⟩,HB1.out⟩
   | false =>
    rw [hq] at HC
    have HN:=hid (HNO.out hq)
    clear HNO HYES hq
    go_wp2_with fail
    refine HC.out.mono ?_
    rintro e w1 ⟨rfl,hb1⟩
    have HB1:=hid (bel_then HB.out HB.out.size hb1)
    clear hb1
    go_wp2_with fail
    go_roundg (l.length-(i+1))
    case measure=>omega
    exact ⟨i+1,by go_num,by omega,by omega,HB1.out,HN.out⟩
  ·have hltz:¬ (i:Int)<(l.length:Int):=by omega
   have hti:l.take i=l:=List.take_of_length_le (by omega)
   rw [hti] at HI
   go_wp2_with fail
   go_ret
   refine ⟨⟨-1,rfl,?_⟩,HI.out.1⟩
   have:l.any f=false:=by
    rw [List.any_eq_false]
    exact fun x hx=>by rw [HI.out.2 x hx];simp
   rw [this]
   decide
set_option maxHeartbeats 2000000 in
theorem hasOv_any {g:Nat} (f:Ky→Bool) (v:Value) (l:List Ky) (w:World) (hv:KK.Is w v l) (hl:l.length≤9000000000000000000)
  (hk:∀(W:World) (x:Ky),Below w.heap.size w W→x∈l→Calls Tryz.prog 147 #[.pointer (some ⟨g,0,none⟩),.agg #[.string x.1,.string x.2]] W fun e w'=>e=.returned (.bool (f x))∧Below W.heap.size W w') :
  Calls Tryz.prog 146 #[v,.func (.func 147) #[.pointer (some ⟨g,0,none⟩)] #[]] w fun e w'=>e=.returned (.bool (l.any f))∧Below w.heap.size w w':=by
 have HX:=hid (idxOv_any f v l w hv hl hk)
 obtain ⟨a,n,cc,rfl⟩:∃a n cc,v=.slice a n cc:=by
  obtain ⟨a,cc,rfl,_⟩:=hv
  exact ⟨a,_,cc,rfl⟩
 clear hv hk
 go_enter Tryz.func146,Tryz.ntmps146
 go_wp2_with fail
 refine HX.out.mono ?_
 rintro e w1 ⟨⟨n,rfl,hn⟩,hb1⟩
 have HN:=hid hn
 have HB:=hid hb1
 clear hn hb1
 go_wp2_with fail
 go_ret
 exact ⟨ret_bool HN.out,HB.out⟩
end
end Go.Proofs.YtmhlcnmfbolgdaaGreat
