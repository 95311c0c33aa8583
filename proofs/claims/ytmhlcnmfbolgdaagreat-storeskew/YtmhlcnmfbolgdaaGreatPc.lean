/-
  Texts of this claim, one behind the other: Cp8 Cl0 Cst Cnl Ddm Dat Dfi Dpt Dpu Dcp Dpr Dky Dlv Dfs Pc5 Psv Dsc Dmk Dwk Dcy Dwi Dwd Sh2 Dea Dlg Ls0 Yt0 Wm0 Qm0 Vm0.
-/
import Derived.Test.YtmhlcnmfbolgdaaGreatPb
import Derived.Shelf.Abstract
import Derived.Shelf.RegionOpen
import Derived.OwnWalkIn
import Derived.TacticsInMore
import Derived.LoopNIn
import Derived.LoopIn
import Derived.Deep.DeepAppendWide
namespace Go.Proofs.YtmhlcnmfbolgdaaGreat
section
open Go.RowKit
set_option maxHeartbeats 2000000 in
set_option maxRecDepth 100000 in
theorem put_live {n0:Nat} {w:World} {g:Nat} {d:List Vx} {vs:Value} (hC:PrgC n0 w g d vs) (stamp tick:Int) (v:Value) (e:List Fx) (val:List Fld) (hv:IsXs w v e) (hf:FitX e) (hval:e.map Fx.fld=val) (h0:0≤stamp) (htop:(lastV (d.map Vx.ver)).num<2400000000000) :
  Calls Tryz.prog 233 #[.pointer (some ⟨g,0,none⟩),.int .u64 stamp,.int .i64 tick,.bool true,v] w fun r w' =>
   r=.returned (.tuple #[.int .i64 (putN (d.map Vx.ver) stamp true val),.int .i64 (putC (d.map Vx.ver) stamp true val)])∧TurnC n0 w g d vs (putL (d.map Vx.ver) stamp tick true val) w':=by
 have HBX:Hid (Below w.heap.size w (w.alloc (.cells #[.int .i64 0,.int .u64 0,.int .i64 0,.bool false,.slice none 0 0] 46))):=(Below.refl _ _).alloc (Nat.le_refl _) _
 have HBL:Hid (Below w.heap.size w (w.alloc (.cells (encVx (lastX d)).toArray 46))):=(Below.refl _ _).alloc (Nat.le_refl _) _
 have HVL:Hid (VerAt (w.alloc (.cells (encVx (lastX d)).toArray 46)) w.heap.size (lastX d)):=heap_alloc_new w _
 have hC1:=hC.on HBX.out
 have hCL:=hC.on HBL.out
 have HC:=hid hC
 have hfew:=hC.few
 obtain ⟨p,cap,rfl⟩:=Kind.own_shape hC.row
 have c0:=hC1.cell
 have cL:=hCL.cell
 have zL:=hCL.free
 have hge:=last_ge hC.ok
 have hls:(lastX d).stamp=(lastV (d.map Vx.ver)).stamp:=by rw [←lastX_ver];rfl
 have hll:(lastX d).live=(lastV (d.map Vx.ver)).live:=by rw [←lastX_ver];rfl
 have hln:(lastX d).num=(lastV (d.map Vx.ver)).num:=by rw [←lastX_ver];rfl
 have hnum0:0≤(lastX d).num:=by have:=ok_len hC.ok;rw [hln];omega
 have HA:=hid (last_at hC1)
 have HOLD:Hid ((lastX d).stamp<stamp∨putC (d.map Vx.ver) stamp true val=8):=by
  rcases Int.lt_or_le (lastX d).stamp stamp with h|h
  ·exact Or.inl h
  ·exact Or.inr (pc_old (by rw [←hls];exact h))
 have hntop:(lastX d).num<2400000000000:=by rw [hln];exact htop
 have HNEW:Hid ((lastX d).stamp<stamp→putC (d.map Vx.ver) stamp true val=if mayB val=false then 3 else 0):=fun h=>by
  rw [pc_at hge (by rw [←hls];omega)]
  simp
 have HYES:Hid (∀(W w4:World) (b c:Nat) (pu:Option Addr) (cu:Nat) (o:List Fx),(putC (d.map Vx.ver) stamp true val=0∧mayB val=true)→Below w.heap.size w W→OwnJ w.heap.size W (.slice pu o.length cu) o→o.map Fx.fld=val→KV.Own n0 w4 (.slice (some ⟨b,0,none⟩) (d.length+1) c) (d++[⟨(lastX d).num+1,stamp,tick,true,pu,cu,o⟩])→W.grownBy w4 (Value.slice p d.length cap).ownBlock→((Value.slice p d.length cap).ownBlock=some b∨w.heap.size≤b)→_):=fun W w4 b c pu cu o hc hb hj hm ho hg hat=>put_yes (W:=W) (w4:=w4) hC (tick:=tick) h0 hc.1 htop hb (pu:=pu) (cu:=cu) (o:=o) hj (by rw [hm];exact hc.2) hm ho hg hat
 have HMAY:=hid (may_any v e _ (hv.kept HBL.out) hf)
 have HCOPY:Hid (mayB val=true→∀W,Below w.heap.size w W→Calls Tryz.prog 310 #[v] W fun r w'=>∃u o,r=.returned u∧OwnJ W.heap.size w' u o∧o.map Fx.fld=val∧Below W.heap.size W w'):=fun hm W hW=>by
  have:=copied_any v e W (hv.kept hW) hf (may_fit (by rw [hval];exact hm)).2
  rw [hval] at this
  exact this
 rw [hval] at HMAY
 clear hC1 hC hls hll hln hge htop hval hf
 obtain ⟨vp,vc,rfl,_⟩:=hv
 obtain ⟨L,hL⟩:∃L,lastX d=L:=⟨_,rfl⟩
 rw [hL] at HBL HA HOLD HNEW HYES HMAY hnum0 hntop cL zL HVL
 clear hL
 obtain ⟨xn,xs,xt,xl,xp,xc,xo⟩:=L
 simp only [encVx,Vx.sl] at HBL HA HOLD HNEW HYES HMAY hnum0 hntop cL zL HVL
 by_cases hs:xs<stamp
 ·have hs':¬ stamp≤xs:=by omega
  cases hmay:mayB val with
  | false =>
   have H3:=hid (HNEW.out hs)
   rw [if_pos hmay] at H3
   rw [hmay] at HMAY
   rcases HA.out with ⟨rfl,hz⟩|⟨b1,k,hk,rfl,y0,y1,y2,y3,y4⟩
   ·cases hz
    have e0:([]:List Vx).length=0:=rfl
    clear HOLD HNEW HA hCL HYES HCOPY hmay
    go_enter Tryz.func233,Tryz.ntmps233
    go_wp2_with fail
    refine HMAY.out.mono ?_
    rintro r w2 ⟨rfl,hg2⟩
    have HB2:=hid (bel_then HBL.out HBL.out.size hg2.below)
    clear hg2 HMAY
    go_wp2_with fail
    go_ret2
    have:=put_no (tick:=tick) HC.out H3.out (by decide) HB2.out
    exact ⟨congrArg Ending.returned this.1,this.2⟩
   ·rw [hk] at c0
    simp only [Vx.sl] at y4
    clear HOLD HNEW HA hCL HYES HCOPY hmay
    go_enter Tryz.func233,Tryz.ntmps233
    go_wp2_with fail
    refine HMAY.out.mono ?_
    rintro r w2 ⟨rfl,hg2⟩
    have HB2:=hid (bel_then HBL.out HBL.out.size hg2.below)
    clear hg2 HMAY
    go_wp2_with fail
    go_ret2
    have:=put_no (tick:=tick) HC.out H3.out (by decide) HB2.out
    exact ⟨congrArg Ending.returned this.1,this.2⟩
  | true =>
   have H3:Hid (putC (d.map Vx.ver) stamp true val=0∧mayB val=true):=by
    have:=HNEW.out hs
    rw [if_neg (by rw [hmay];simp)] at this
    exact ⟨this,hmay⟩
   have HCOPY:=hid (HCOPY.out hmay)
   rw [hmay] at HMAY
   rcases HA.out with ⟨hd,hz⟩|⟨b1,k,hk,rfl,y0,y1,y2,y3,y4⟩
   ·cases hz
    have hk:d.length=0:=by rw [hd];rfl
    simp only [Int.zero_add] at HYES
    ·rw [hk] at c0
     clear HOLD HNEW HA hCL hmay hd
     go_enter Tryz.func233,Tryz.ntmps233
     go_wp2_with fail
     refine HMAY.out.mono ?_
     rintro r w2 ⟨rfl,hg2⟩
     have hb2:=hg2.below
     have hBL2:=bel_then HBL.out HBL.out.size hb2
     obtain ⟨l0,l1,l2,l3,l4⟩:=(HVL.out.on hb2).cells
     simp only [Nat.zero_add] at l1 l2 l3 l4
     obtain ⟨M,hM⟩:∃M,w2.heap.size=M:=⟨_,rfl⟩
     have hNM:w.heap.size≤M:=by have:=hBL2.size;omega
     have HB3:Hid (Below w.heap.size w (w2.alloc (.cells #[.int .i64 1,.int .u64 stamp,.int .i64 tick,.bool true,.slice none 0 0] 46))):=hBL2.alloc hBL2.size _
     have HCP:=hid (HCOPY.out _ HB3.out)
     have HX3:Hid (VerAt (w2.alloc (.cells #[.int .i64 1,.int .u64 stamp,.int .i64 tick,.bool true,.slice none 0 0] 46)) M ⟨1,stamp,tick,true,none,0,[]⟩):=by
      rw [←hM];exact heap_alloc_new w2 _
     have hs3:(w2.alloc (.cells #[.int .i64 1,.int .u64 stamp,.int .i64 tick,.bool true,.slice none 0 0] 46)).heap.size=M+1:=by simp [hM]
     clear hg2 hb2 hBL2 HMAY HCOPY
     go_wp2_with fail
     refine HCP.out.mono ?_
     rintro r w4 ⟨u,o,rfl,hJ,hmo,hb4⟩
     obtain ⟨pu,cu,rfl⟩:=ownJ_slice hJ
     have hX4:=HX3.out.on hb4
     obtain ⟨m0,m1,m2,m3,m4'⟩:=hX4.cells
     have m4:w4.cell? ⟨M,4,none⟩=some (.slice none 0 0):=by simpa [Vx.sl] using m4'
     simp only [Nat.zero_add] at m1 m2 m3
     have f4:=hX4.free 4
     obtain ⟨W5,hW5⟩:∃W5,w4.setCell ⟨M,4,none⟩ (.slice pu o.length cu)=W5:=⟨_,rfl⟩
     obtain ⟨S5,hS5⟩:∃S5,W5.heap.size=S5:=⟨_,rfl⟩
     have hb34:Below w.heap.size w w4:=bel_then HB3.out HB3.out.size hb4
     have hb5:Below w.heap.size w W5:=by rw [←hW5];exact hb34.setCell hNM _
     have hX5:VerAt W5 M ⟨1,stamp,tick,true,pu,cu,o⟩:=by
      rw [←hW5]
      exact heap_setCell_same w4 M 4 _ _ _ hX4
     have hJ4:OwnJ (M+1) w4 (.slice pu o.length cu) o:=own_weakJ hJ (by omega)
     have HJ5:Hid (OwnJ w.heap.size W5 (.slice pu o.length cu) o):=by
      rw [←hW5]
      exact own_weakJ (ownJ_set hJ4 (by omega) _) (by omega)
     have HMO:=hid hmo
     have HP:=hid (push_at HC.out hb5 hX5 hNM hS5)
     obtain ⟨q0,q1,q2,q3,q4'⟩:=HP.out.new
     have q4:W5.cell? ⟨M,0+4,none⟩=some (.slice pu o.length cu):=q4'
     have c5:=HP.out.cell
     have z5:=HP.out.free
     have a5:=HP.out.next
     have hne:=HP.out.ne
     rw [hk] at c5 a5
     clear hX5 hb5 q4' hX4 hJ hJ4 hmo hb4 hb34 HX3 HCP m4' l0 l1 l2 l3 l4
     go_upto_region 16 with fail
     try rw [hW5]
     clear hW5 m0 m1 m2 m3 m4 f4
     go_region_law (first
      | (refine step_putV _ (by rfl) (.tmp 64) (.tmp 66) (by rfl) n0 (.slice p (0) cap) d (by rfl) (by rw [←hk];exact HP.out.own _) _ ⟨1,stamp,tick,true,pu,cu,o⟩ (by rfl) (by exact HP.out.lies) hfew (HP.out.big _) ?_;intro b6 cap6 w6 hown6 hg6 hat6;rw [←hk] at hg6 hat6;obtain ⟨g61,g62,g63⟩:=HP.out.then_ _ _ hg6))
     all_goals
      have HH:=hid (HYES.out _ w6 b6 cap6 pu cu o H3.out (HP.out.bel _) (HJ5.out.on (bel_drewN ((Below.refl _ _).alloc (Nat.le_refl _) _) 1)) HMO.out hown6 hg6 (hat6.imp id (HP.out.high _ _)))
      rw [hk] at HH
      clear hown6 hg6 hat6
      go_wp2_with fail
      go_ret2
      exact ⟨congrArg Ending.returned HH.out.1,HH.out.2⟩
   ·rw [hk] at c0
    simp only [Vx.sl] at y4
    ·clear HOLD HNEW HA hCL hmay
     go_enter Tryz.func233,Tryz.ntmps233
     go_wp2_with fail
     refine HMAY.out.mono ?_
     rintro r w2 ⟨rfl,hg2⟩
     have hb2:=hg2.below
     have hBL2:=bel_then HBL.out HBL.out.size hb2
     obtain ⟨l0,l1,l2,l3,l4⟩:=(HVL.out.on hb2).cells
     simp only [Nat.zero_add] at l1 l2 l3 l4
     obtain ⟨M,hM⟩:∃M,w2.heap.size=M:=⟨_,rfl⟩
     have hNM:w.heap.size≤M:=by have:=hBL2.size;omega
     have HB3:Hid (Below w.heap.size w (w2.alloc (.cells #[.int .i64 (xn+1),.int .u64 stamp,.int .i64 tick,.bool true,.slice none 0 0] 46))):=hBL2.alloc hBL2.size _
     have HCP:=hid (HCOPY.out _ HB3.out)
     have HX3:Hid (VerAt (w2.alloc (.cells #[.int .i64 (xn+1),.int .u64 stamp,.int .i64 tick,.bool true,.slice none 0 0] 46)) M ⟨xn+1,stamp,tick,true,none,0,[]⟩):=by
      rw [←hM];exact heap_alloc_new w2 _
     have hs3:(w2.alloc (.cells #[.int .i64 (xn+1),.int .u64 stamp,.int .i64 tick,.bool true,.slice none 0 0] 46)).heap.size=M+1:=by simp [hM]
     clear hg2 hb2 hBL2 HMAY HCOPY
     go_wp2_with fail
     refine HCP.out.mono ?_
     rintro r w4 ⟨u,o,rfl,hJ,hmo,hb4⟩
     obtain ⟨pu,cu,rfl⟩:=ownJ_slice hJ
     have hX4:=HX3.out.on hb4
     obtain ⟨m0,m1,m2,m3,m4'⟩:=hX4.cells
     have m4:w4.cell? ⟨M,4,none⟩=some (.slice none 0 0):=by simpa [Vx.sl] using m4'
     simp only [Nat.zero_add] at m1 m2 m3
     have f4:=hX4.free 4
     obtain ⟨W5,hW5⟩:∃W5,w4.setCell ⟨M,4,none⟩ (.slice pu o.length cu)=W5:=⟨_,rfl⟩
     obtain ⟨S5,hS5⟩:∃S5,W5.heap.size=S5:=⟨_,rfl⟩
     have hb34:Below w.heap.size w w4:=bel_then HB3.out HB3.out.size hb4
     have hb5:Below w.heap.size w W5:=by rw [←hW5];exact hb34.setCell hNM _
     have hX5:VerAt W5 M ⟨xn+1,stamp,tick,true,pu,cu,o⟩:=by
      rw [←hW5]
      exact heap_setCell_same w4 M 4 _ _ _ hX4
     have hJ4:OwnJ (M+1) w4 (.slice pu o.length cu) o:=own_weakJ hJ (by omega)
     have HJ5:Hid (OwnJ w.heap.size W5 (.slice pu o.length cu) o):=by
      rw [←hW5]
      exact own_weakJ (ownJ_set hJ4 (by omega) _) (by omega)
     have HMO:=hid hmo
     have HP:=hid (push_at HC.out hb5 hX5 hNM hS5)
     obtain ⟨q0,q1,q2,q3,q4'⟩:=HP.out.new
     have q4:W5.cell? ⟨M,0+4,none⟩=some (.slice pu o.length cu):=q4'
     have c5:=HP.out.cell
     have z5:=HP.out.free
     have a5:=HP.out.next
     have hne:=HP.out.ne
     rw [hk] at c5 a5
     clear hX5 hb5 q4' hX4 hJ hJ4 hmo hb4 hb34 HX3 HCP m4' l0 l1 l2 l3 l4
     go_upto_region 16 with fail
     try rw [hW5]
     clear hW5 m0 m1 m2 m3 m4 f4
     go_region_law (first
      | (refine step_putV _ (by rfl) (.tmp 64) (.tmp 66) (by rfl) n0 (.slice (some ⟨b1,0,none⟩) (k+1) cap) d (by rfl) (by rw [←hk];exact HP.out.own _) _ ⟨xn+1,stamp,tick,true,pu,cu,o⟩ (by rfl) (by exact HP.out.lies) hfew (HP.out.big _) ?_;intro b6 cap6 w6 hown6 hg6 hat6;rw [←hk] at hg6 hat6;obtain ⟨g61,g62,g63⟩:=HP.out.then_ _ _ hg6))
     all_goals
      have HH:=hid (HYES.out _ w6 b6 cap6 pu cu o H3.out (HP.out.bel _) (HJ5.out.on (bel_drewN ((Below.refl _ _).alloc (Nat.le_refl _) _) 1)) HMO.out hown6 hg6 (hat6.imp id (HP.out.high _ _)))
      rw [hk] at HH
      clear hown6 hg6 hat6
      go_wp2_with fail
      go_ret2
      exact ⟨congrArg Ending.returned HH.out.1,HH.out.2⟩
 ·have hs':stamp≤xs:=by omega
  have H8:Hid (putC (d.map Vx.ver) stamp true val=8):=by
   rcases HOLD.out with h|h
   ·exact absurd h hs
   ·exact h
  rcases HA.out with ⟨rfl,hz⟩|⟨b1,k,hk,rfl,y0,y1,y2,y3,y4⟩
  ·cases hz
   have e0:([]:List Vx).length=0:=rfl
   clear HOLD HNEW HA hCL HYES HVL HMAY HCOPY
   go_enter Tryz.func233,Tryz.ntmps233
   go_wp2_with fail
   go_ret2
   have:=put_no (tick:=tick) HC.out H8.out (by decide) HBL.out
   exact ⟨congrArg Ending.returned this.1,this.2⟩
  ·rw [hk] at c0
   simp only [Vx.sl] at y4
   clear HOLD HNEW HA hCL HYES HVL HMAY HCOPY
   go_enter Tryz.func233,Tryz.ntmps233
   go_wp2_with fail
   go_ret2
   have:=put_no (tick:=tick) HC.out H8.out (by decide) HBL.out
   exact ⟨congrArg Ending.returned this.1,this.2⟩
theorem put_any {n0:Nat} {w:World} {g:Nat} {d:List Vx} {vs:Value} (hC:PrgC n0 w g d vs) (stamp tick:Int) (live:Bool) (v:Value) (e:List Fx) (val:List Fld) (hv:IsXs w v e) (hf:FitX e) (hval:e.map Fx.fld=val) (h0:0≤stamp) (htop:(lastV (d.map Vx.ver)).num<2400000000000) :
  Calls Tryz.prog 233 #[.pointer (some ⟨g,0,none⟩),.int .u64 stamp,.int .i64 tick,.bool live,v] w fun r w' =>
   r=.returned (.tuple #[.int .i64 (putN (d.map Vx.ver) stamp live val),.int .i64 (putC (d.map Vx.ver) stamp live val)])∧TurnC n0 w g d vs (putL (d.map Vx.ver) stamp tick live val) w':=by
 cases live
 ·exact put_dead hC stamp tick v val h0 htop
 ·exact put_live hC stamp tick v e val hv hf hval h0 htop
end
section
open Go.RowKit
theorem at_mem {l:List Vr} {t:Int} {v:Vr} (h:atV l t=some v):v∈l:=by
 unfold atV at h
 split at h
 ·cases h
 ·exact List.mem_of_getElem? h
end
section
open Go.RowKit
theorem versions_no (w:World):Calls Tryz.prog 238 #[.pointer none] w fun e w'=>e=.returned (.slice none 0 0)∧w'=w:=by
 go_enter Tryz.func238,Tryz.ntmps238
 go_wp2_with fail
 go_ret
 exact ⟨rfl,rfl⟩
theorem through_no (t:Int) (w:World):Calls Tryz.prog 263 #[.slice none 0 0,.int .u64 t] w fun e w'=>e=.returned (.int .i64 0)∧Below w.heap.size w w' :=
 through_any (.slice none 0 0) [] t w (KV.is_nil w) List.Pairwise.nil (Nat.zero_le _)
theorem told_no (place:Int) (w:World):Calls Tryz.prog 262 #[.slice none 0 0,.int .i64 place] w fun e w'=>VAns w none e w':=by
 have:=told_any (.slice none 0 0) [] place w (KV.is_nil w) (fun x hx=>by simp at hx) (Nat.zero_le _)
 have e:getV (([]:List Vx).map Vx.ver) place=none:=by unfold getV;split<;>simp
 rw [e] at this
 exact this
theorem no_len (w:World):Calls Tryz.prog 156 #[.pointer none] w fun e w'=>e=.returned (.int .i64 0)∧w'=w:=by
 have HV:=hid (versions_no w)
 go_enter Tryz.func156,Tryz.ntmps156
 go_wp2_with fail
 refine HV.out.mono ?_
 rintro e w1 ⟨rfl,rfl⟩
 go_wp2_with fail
 go_ret
 exact ⟨rfl,rfl⟩
set_option maxHeartbeats 1000000 in
set_option maxRecDepth 100000 in
theorem no_at (t:Int) (w:World):Calls Tryz.prog 176 #[.pointer none,.int .u64 t] w fun e w'=>VAns w none e w':=by
 have HBX:Hid (Below w.heap.size w (w.alloc (.cells #[.int .i64 0,.int .u64 0,.int .i64 0,.bool false,.slice none 0 0] 46))):=(Below.refl _ _).alloc (Nat.le_refl _) _
 have HZ:=hid (zero_new w)
 obtain ⟨W1,hW1⟩:∃W1,w.alloc (.cells #[.int .i64 0,.int .u64 0,.int .i64 0,.bool false,.slice none 0 0] 46)=W1:=⟨_,rfl⟩
 rw [hW1] at HBX HZ
 have HV:=hid (versions_no W1)
 have HTH:=hid (through_no t W1)
 obtain ⟨N,hN⟩:∃N,w.heap.size=N:=⟨_,rfl⟩
 rw [hN] at HZ HBX
 have hs1:N+1≤W1.heap.size:=by rw [←hW1,←hN];simp
 go_enter Tryz.func176,Tryz.ntmps176
 go_wp2_with fail
 try rw [hW1]
 refine HV.out.mono ?_
 rintro e w1 ⟨rfl,rfl⟩
 go_wp2_with fail
 refine HTH.out.mono ?_
 rintro e w2 ⟨rfl,hb2⟩
 have HTO:=hid (told_no (-1) w2)
 have HB2:=hid hb2
 have hs2:=hb2.size
 clear hb2 HTH HV
 go_wp2_with fail
 refine HTO.out.mono ?_
 rintro e w3 ⟨x,rfl,hx,hJ,hq3⟩
 have HX:=hid hx
 have HJ:=hid (own_weakJ hJ (M:=N+1) (by omega))
 have hZ3:=(HZ.out.on HB2.out).on hq3
 obtain ⟨q0,q1,q2,q3,q4⟩:=hZ3.cells
 have r0:=hZ3.free 0
 have r1:=hZ3.free 1
 have r2:=hZ3.free 2
 have r3:=hZ3.free 3
 have r4:=hZ3.free 4
 have HB3:Hid (Below N w w3):=bel_then (bel_then HBX.out (by omega) HB2.out) (by omega) hq3
 obtain ⟨xn,xs,xt,xl,xp,xc,xo⟩:=x
 simp only [encVx,Vx.sl] at HJ ⊢
 clear hx hJ hq3 hZ3 HTO HZ HBX HB2
 try simp only [hN]
 go_wp2_with fail
 exact bodyPost_ret (v:=.tuple #[.agg #[.int .i64 xn,.int .u64 xs,.int .i64 xt,.bool xl,.slice xp xo.length xc],.bool false]) (by simp [results,Tryz.results176,go_sem,q0,q1,q2,q3,q4]) rfl
  ⟨⟨xn,xs,xt,xl,xp,xc,xo⟩,rfl,HX.out,by
   rw [hN]
   refine own_weakJ (N:=N+1) ?_ (by omega)
   exact ownJ_set (ownJ_set (ownJ_set (ownJ_set (ownJ_set HJ.out (by omega) _) (by omega) _) (by omega) _) (by omega) _) (by omega) _,by
   rw [hN]
   exact ((((HB3.out.setCell (Nat.le_refl _) _).setCell (Nat.le_refl _) _).setCell (Nat.le_refl _) _).setCell (Nat.le_refl _) _).setCell (Nat.le_refl _) _⟩
set_option maxHeartbeats 1000000 in
set_option maxRecDepth 100000 in
theorem no_last (w:World):Calls Tryz.prog 292 #[.pointer none] w fun e w'=>VAns w none e w':=by
 have HBX:Hid (Below w.heap.size w (w.alloc (.cells #[.int .i64 0,.int .u64 0,.int .i64 0,.bool false,.slice none 0 0] 46))):=(Below.refl _ _).alloc (Nat.le_refl _) _
 have HZ:=hid (zero_new w)
 obtain ⟨W1,hW1⟩:∃W1,w.alloc (.cells #[.int .i64 0,.int .u64 0,.int .i64 0,.bool false,.slice none 0 0] 46)=W1:=⟨_,rfl⟩
 rw [hW1] at HBX HZ
 have HV:=hid (versions_no W1)
 have HTO:=hid (told_no (-1) W1)
 obtain ⟨N,hN⟩:∃N,w.heap.size=N:=⟨_,rfl⟩
 rw [hN] at HZ HBX
 have hs1:N+1≤W1.heap.size:=by rw [←hW1,←hN];simp
 go_enter Tryz.func292,Tryz.ntmps292
 go_wp2_with fail
 try rw [hW1]
 refine HV.out.mono ?_
 rintro e w1 ⟨rfl,rfl⟩
 go_wp2_with fail
 refine HTO.out.mono ?_
 rintro e w3 ⟨x,rfl,hx,hJ,hq3⟩
 have HX:=hid hx
 have HJ:=hid (own_weakJ hJ (M:=N+1) (by omega))
 have hZ3:=HZ.out.on hq3
 obtain ⟨q0,q1,q2,q3,q4⟩:=hZ3.cells
 have r0:=hZ3.free 0
 have r1:=hZ3.free 1
 have r2:=hZ3.free 2
 have r3:=hZ3.free 3
 have r4:=hZ3.free 4
 have HB3:Hid (Below N w w3):=bel_then HBX.out (by omega) hq3
 obtain ⟨xn,xs,xt,xl,xp,xc,xo⟩:=x
 simp only [encVx,Vx.sl] at HJ ⊢
 clear hx hJ hq3 hZ3 HTO HZ HBX
 try simp only [hN]
 go_wp2_with fail
 exact bodyPost_ret (v:=.tuple #[.agg #[.int .i64 xn,.int .u64 xs,.int .i64 xt,.bool xl,.slice xp xo.length xc],.bool false]) (by simp [results,Tryz.results292,go_sem,q0,q1,q2,q3,q4]) rfl
  ⟨⟨xn,xs,xt,xl,xp,xc,xo⟩,rfl,HX.out,by
   rw [hN]
   refine own_weakJ (N:=N+1) ?_ (by omega)
   exact ownJ_set (ownJ_set (ownJ_set (ownJ_set (ownJ_set HJ.out (by omega) _) (by omega) _) (by omega) _) (by omega) _) (by omega) _,by
   rw [hN]
   exact ((((HB3.out.setCell (Nat.le_refl _) _).setCell (Nat.le_refl _) _).setCell (Nat.le_refl _) _).setCell (Nat.le_refl _) _).setCell (Nat.le_refl _) _⟩
end
section
open Go.RowKit
structure Cm where
 g:Nat
 d:List Vx
 vs:Value
def Cm.blk (c:Cm) (b:Nat):Prop:=BlkC c.g c.d c.vs b
def fOf (G:Ky→Cm) (D:List RowD) (k:Ky):Option Nat:=if (ofD D k).isEmpty then none else some (G k).g
theorem fOf_none {G:Ky→Cm} {D:List RowD} {k:Ky} (h:ofD D k=[]):fOf G D k=none:=by unfold fOf;rw [h];rfl
theorem fOf_some {G:Ky→Cm} {D:List RowD} {k:Ky} (h:ofD D k≠[]):fOf G D k=some (G k).g:=by
 unfold fOf
 rw [if_neg]
 rw [List.isEmpty_iff]
 exact h
structure DirM (n0:Nat) (W:World) (g m n:Nat) (G:Ky→Cm) (D:List RowD):Prop where
 cell:W.cell? ⟨g,0,none⟩=some (.map (some m))
 bg:n0≤g
 bm:n0≤m
 map:MapD W m n (fOf G D)
 prg:∀k,ofD D k≠[]→PrgC n0 W (G k).g (G k).d (G k).vs∧(G k).d.map Vx.ver=ofD D k
 apart:∀k1 k2,ofD D k1≠[]→ofD D k2≠[]→k1≠k2→∀b,(G k1).blk b→¬ (G k2).blk b
 off:∀k,ofD D k≠[]→∀b,(G k).blk b→b≠g∧b≠m
 ok:OkD D
 key:∀k,ofD D k≠[]→keyB k.1 k.2=true
 num:∀k,(lastV (ofD D k)).num≤n
 few:countD D≤n
def BlkD (g m:Nat) (G:Ky→Cm) (D:List RowD) (b:Nat):Prop:=b=g∨b=m∨∃k,ofD D k≠[]∧(G k).blk b
theorem DirM.ne {n0:Nat} {W:World} {g m n:Nat} {G:Ky→Cm} {D:List RowD} (h:DirM n0 W g m n G D):g≠m:=h.map.off h.cell
theorem DirM.blk {n0:Nat} {W:World} {g m n:Nat} {G:Ky→Cm} {D:List RowD} (h:DirM n0 W g m n G D) (b:Nat) (hb:BlkD g m G D b):n0≤b∧b<W.heap.size:=by
 rcases hb with rfl|rfl|⟨k,hk,hb⟩
 ·exact ⟨h.bg,cell_block h.cell⟩
 ·exact ⟨h.bm,h.map.lt⟩
 ·exact (h.prg k hk).1.blk b hb
theorem DirM.fr {P:Nat→Prop} {n0:Nat} {W W':World} {g m n:Nat} {G:Ky→Cm} {D:List RowD} (h:DirM n0 W g m n G D) (f:Fr P W W') (hP:∀b,BlkD g m G D b→¬ P b):DirM n0 W' g m n G D :=
 ⟨f.cell h.cell (hP g (Or.inl rfl)),h.bg,h.bm,h.map.on (f.block m h.map.lt (hP m (Or.inr (Or.inl rfl)))),fun k hk=>⟨(h.prg k hk).1.fr f fun b hb=>hP b (Or.inr (Or.inr ⟨k,hk,hb⟩)),(h.prg k hk).2⟩,h.apart,h.off,h.ok,h.key,h.num,h.few⟩
theorem DirM.on {n0:Nat} {W W':World} {g m n:Nat} {G:Ky→Cm} {D:List RowD} (h:DirM n0 W g m n G D) (hb:Below W.heap.size W W'):DirM n0 W' g m n G D :=
 h.fr (P:=fun _=>False) (Fr.of_below hb) fun _ _ hf=>hf
theorem DirM.mono {n0:Nat} {W:World} {g m n n':Nat} {G:Ky→Cm} {D:List RowD} (h:DirM n0 W g m n G D) (hn:n≤n'):DirM n0 W g m n' G D :=
 ⟨h.cell,h.bg,h.bm,h.map.mono hn,h.prg,h.apart,h.off,h.ok,h.key,fun k=>by have:=h.num k;omega,Nat.le_trans h.few hn⟩
theorem key_small {k:Ky} (h:keyB k.1 k.2=true):k.1.size≤32∧k.2.size≤32:=by
 unfold keyB at h
 rw [Bool.and_eq_true] at h
 have h1:=typeB_len h.1
 have h2:=idenB_len h.2
 exact ⟨by simpa using h1,by simpa using h2⟩
theorem key_fit {k:Ky} (h:keyB k.1 k.2=true):FitK k:=by
 obtain ⟨h1,h2⟩:=key_small h
 unfold FitK maxLen
 omega
theorem all_is (g m:Nat) (W:World) (hc:W.cell? ⟨g,0,none⟩=some (.map (some m))) :
  Calls Tryz.prog 155 #[.pointer (some ⟨g,0,none⟩)] W fun e w'=>e=.returned (.map (some m))∧w'=W:=by
 go_enter Tryz.func155,Tryz.ntmps155
 go_wp2_with fail
 go_ret
 exact ⟨rfl,rfl⟩
set_option maxHeartbeats 2000000 in
set_option maxRecDepth 100000 in
theorem of_is {W:World} {g m n:Nat} {f:Ky→Option Nat} (hc:W.cell? ⟨g,0,none⟩=some (.map (some m))) (hM:MapD W m n f) (k:Ky) (hk:FitK k) :
  Calls Tryz.prog 175 #[.pointer (some ⟨g,0,none⟩),.agg #[.string k.1,.string k.2]] W fun e w'=>e=.returned (mkP (f k))∧Below W.heap.size W w':=by
 obtain ⟨V,hV⟩:∃V,W.alloc (.cells #[.string k.1,.string k.2] 39)=V:=⟨_,rfl⟩
 obtain ⟨F,hF⟩:∃F,W.heap.size=F:=⟨_,rfl⟩
 have hbV:Below W.heap.size W V:=by rw [←hV];exact (Below.refl _ _).alloc (Nat.le_refl _) _
 have hnew:V.heap[F]? = some (.cells #[.string k.1,.string k.2] 39 (0,0)):=by rw [←hV,←hF];exact heap_alloc_new W _
 have hFV:F<V.heap.size:=(Array.getElem?_eq_some_iff.1 hnew).1
 have hgl:g<W.heap.size:=cell_block hc
 have KS:Hid (∀w':World,Below V.drew.heap.size V.drew w'→w'.cell? ⟨g,0,none⟩=some (.map (some m))∧w'.cell? ⟨F,0,none⟩=some (.string k.1)∧w'.cell? ⟨F,1,none⟩=some (.string k.2)∧(Instr.lookup 200 (.map (some m)) (.agg #[.string k.1,.string k.2]) false).run Tryz.prog w'=.ok (mkP (f k)) w'):=fun w' h=>by
  have h1:w'.heap[g]? = W.heap[g]?:=(h.block g (Nat.lt_of_lt_of_le hgl hbV.size)).trans (hbV.block g hgl)
  have h2:w'.heap[m]? = W.heap[m]?:=(h.block m (Nat.lt_of_lt_of_le hM.lt hbV.size)).trans (hbV.block m hM.lt)
  have h3:w'.heap[F]? = some (.cells #[.string k.1,.string k.2] 39 (0,0)):=(h.block F hFV).trans hnew
  refine ⟨(World.cell?_of_block h1).trans hc,by rw [Lib.cell_of_heap h3];rfl,by rw [Lib.cell_of_heap h3];rfl,mapD_look (hM.on h2) hk⟩
 have HD:Hid (∀w':World,w'.cell? ⟨g,0,none⟩=some (.map (some m))→Calls Tryz.prog 155 #[.pointer (some ⟨g,0,none⟩)] w' fun e w2=>e=.returned (.map (some m))∧w2=w'):=fun w' h=>all_is g m w' h
 obtain ⟨p,hp⟩:∃p,mkP (f k)=Value.pointer p:=⟨_,rfl⟩
 rw [hp] at KS ⊢
 have q0:=KS.out V.drew (Below.refl _ _)
 have HBV:=hid hbV
 obtain ⟨ka,kb⟩:=k
 simp only at *
 clear hc hM hk hbV hp hnew hgl
 go_enter Tryz.func175,Tryz.ntmps175
 go_wp2_with fail
 go_region_held3 (fun w'=>w'.cell? ⟨g,0,none⟩=some (.map (some m))∧w'.cell? ⟨F,0,none⟩=some (.string ka)∧w'.cell? ⟨F,1,none⟩=some (.string kb)∧(Instr.lookup 200 (.map (some m)) (.agg #[.string ka,.string kb]) false).run Tryz.prog w'=.ok (.pointer p) w')
  (first|exact q0)
  (first|(go_at_call 155;refine (HD.out _ q0.1).mono ?_;rintro e w5 ⟨rfl,rfl⟩))
 all_goals
  go_wp2_with fail
  go_ret
  rw [←hF]
  exact ⟨rfl,HBV.out.drew⟩
end
section
open Go.RowKit
section
variable {n0:Nat} {W:World} {g m n:Nat} {G:Ky→Cm} {D:List RowD}
theorem chain_at (h:DirM n0 W g m n G D) (k:Ky) (t:Int):Calls Tryz.prog 176 #[mkP (fOf G D k),.int .u64 t] W fun e w'=>VAns W (atV (ofD D k) t) e w':=by
 by_cases e:ofD D k=[]
 ·rw [fOf_none e,e]
  exact no_at t W
 ·rw [fOf_some e,←(h.prg k e).2]
  exact at_any (h.prg k e).1 t
theorem chain_last (h:DirM n0 W g m n G D) (k:Ky):Calls Tryz.prog 292 #[mkP (fOf G D k)] W fun e w'=>VAns W (ofD D k).getLast? e w':=by
 by_cases e:ofD D k=[]
 ·rw [fOf_none e,e]
  exact no_last W
 ·rw [fOf_some e,←(h.prg k e).2]
  exact last_any (h.prg k e).1
theorem chain_len (h:DirM n0 W g m n G D) (k:Ky):Calls Tryz.prog 156 #[mkP (fOf G D k)] W fun e w'=>e=.returned (.int .i64 ((ofD D k).length:Int))∧w'=W:=by
 by_cases e:ofD D k=[]
 ·rw [fOf_none e,e]
  exact no_len W
 ·rw [fOf_some e,←(h.prg k e).2,List.length_map]
  exact len_any (h.prg k e).1
theorem DirM.of (h:DirM n0 W g m n G D) (k:Ky) (hk:FitK k):Calls Tryz.prog 175 #[.pointer (some ⟨g,0,none⟩),.agg #[.string k.1,.string k.2]] W fun e w'=>e=.returned (mkP (fOf G D k))∧Below W.heap.size W w':=of_is h.cell h.map k hk
end
set_option maxHeartbeats 2000000 in
set_option maxRecDepth 100000 in
theorem dat_any {n0:Nat} {W:World} {g m n:Nat} {G:Ky→Cm} {D:List RowD} (h:DirM n0 W g m n G D) (k:Ky) (hk:FitK k) (t:Int) :
  Calls Tryz.prog 110 #[.pointer (some ⟨g,0,none⟩),.agg #[.string k.1,.string k.2],.int .u64 t] W fun e w'=>VAns W (atV (ofD D k) t) e w':=by
 obtain ⟨N,hN⟩:∃N,W.heap.size=N:=⟨_,rfl⟩
 obtain ⟨W1,hW1⟩:∃W1,W.alloc (.cells #[.string k.1,.string k.2] 39)=W1:=⟨_,rfl⟩
 have hs1:W1.heap.size=N+1:=by rw [←hW1,←hN];simp
 have hb1:Below N W W1:=by rw [←hW1,←hN];exact (Below.refl _ _).alloc (Nat.le_refl _) _
 have hk1:W1.heap[N]? = some (.cells #[.string k.1,.string k.2] 39 (0,0)):=by rw [←hW1,←hN];exact heap_alloc_new W _
 have HZ:=hid (zero_new W1)
 obtain ⟨W2,hW2⟩:∃W2,W1.alloc (.cells #[.int .i64 0,.int .u64 0,.int .i64 0,.bool false,.slice none 0 0] 46)=W2:=⟨_,rfl⟩
 have hb2:Below (N+1) W1 W2:=by rw [←hW2,←hs1];exact (Below.refl _ _).alloc (Nat.le_refl _) _
 have hs2:W2.heap.size=N+2:=by rw [←hW2];simp;omega
 have hk2:W2.heap[N]? = some (.cells #[.string k.1,.string k.2] 39 (0,0)):=(hb2.block N (by omega)).trans hk1
 have hb12:Below N W W2:=hb1.trans (hb2.mono (by omega))
 rw [hW2,hs1] at HZ
 have hD2:DirM n0 W2 g m n G D:=h.on (by rw [hN];exact hb12)
 have HO:=hid (hD2.of k hk)
 have HA:Hid (∀w',Below W2.heap.size W2 w'→Calls Tryz.prog 176 #[mkP (fOf G D k),.int .u64 t] w' fun e w2=>VAns w' (atV (ofD D k) t) e w2):=fun w' hb=>chain_at (hD2.on hb) k t
 obtain ⟨p,hp⟩:∃p,mkP (fOf G D k)=Value.pointer p:=⟨_,rfl⟩
 rw [hp] at HO HA
 have c0:W2.cell? ⟨N,0,none⟩=some (.string k.1):=cz hk2
 have c1:W2.cell? ⟨N,1,none⟩=some (.string k.2):=cz hk2
 have HB:=hid hb12
 obtain ⟨o,ho⟩:∃o,atV (ofD D k) t=o:=⟨_,rfl⟩
 rw [ho] at HA ⊢
 obtain ⟨ka,kb⟩:=k
 simp only at *
 clear hk1 hk2 hb1 hb2 hb12 hD2 hp h hk ho
 go_enter Tryz.func110,Tryz.ntmps110
 go_wp2_with fail
 refine HO.out.mono ?_
 rintro e w3 ⟨rfl,hb3⟩
 have HA3:=hid (HA.out w3 hb3)
 have HB3:=hid hb3
 have hs3:=hb3.size
 clear hb3 HA HO c0 c1
 go_wp2_with fail
 refine HA3.out.mono ?_
 rintro e w4 ⟨x,rfl,hx,hJ,hq⟩
 have hZ3:=(HZ.out.on HB3.out).on hq
 obtain ⟨q0,q1,q2,q3,q4⟩:=hZ3.cells
 have r0:=hZ3.free 0
 have r1:=hZ3.free 1
 have r2:=hZ3.free 2
 have r3:=hZ3.free 3
 have r4:=hZ3.free 4
 have HX:=hid hx
 have HJ:=hid (own_weakJ hJ (M:=N+2) (by omega))
 have HB4:Hid (Below N W w4):=bel_then (bel_then HB.out (by omega) HB3.out) (by omega) hq
 obtain ⟨xn,xs,xt,xl,xp,xc,xo⟩:=x
 simp only [encVx,Vx.sl] at HJ ⊢
 clear hx hJ hq hZ3 HA3 HZ HB HB3
 go_wp2_with fail
 exact bodyPost_ret (v:=.tuple #[.agg #[.int .i64 xn,.int .u64 xs,.int .i64 xt,.bool xl,.slice xp xo.length xc],.bool o.isSome]) (by simp [results,Tryz.results110,go_sem,q0,q1,q2,q3,q4]) rfl
  ⟨⟨xn,xs,xt,xl,xp,xc,xo⟩,rfl,HX.out,by
   rw [hN]
   refine own_weakJ (N:=N+2) ?_ (by omega)
   exact ownJ_set (ownJ_set (ownJ_set (ownJ_set (ownJ_set HJ.out (by omega) _) (by omega) _) (by omega) _) (by omega) _) (by omega) _,by
   rw [hN]
   exact ((((HB4.out.setCell (by simp) _).setCell (by simp) _).setCell (by simp) _).setCell (by simp) _).setCell (by simp) _⟩
set_option maxHeartbeats 2000000 in
set_option maxRecDepth 100000 in
theorem dlast_any {n0:Nat} {W:World} {g m n:Nat} {G:Ky→Cm} {D:List RowD} (h:DirM n0 W g m n G D) (k:Ky) (hk:FitK k) :
  Calls Tryz.prog 228 #[.pointer (some ⟨g,0,none⟩),.agg #[.string k.1,.string k.2]] W fun e w'=>VAns W ((ofD D k).getLast?) e w':=by
 obtain ⟨N,hN⟩:∃N,W.heap.size=N:=⟨_,rfl⟩
 obtain ⟨W1,hW1⟩:∃W1,W.alloc (.cells #[.string k.1,.string k.2] 39)=W1:=⟨_,rfl⟩
 have hs1:W1.heap.size=N+1:=by rw [←hW1,←hN];simp
 have hb1:Below N W W1:=by rw [←hW1,←hN];exact (Below.refl _ _).alloc (Nat.le_refl _) _
 have hk1:W1.heap[N]? = some (.cells #[.string k.1,.string k.2] 39 (0,0)):=by rw [←hW1,←hN];exact heap_alloc_new W _
 have HZ:=hid (zero_new W1)
 obtain ⟨W2,hW2⟩:∃W2,W1.alloc (.cells #[.int .i64 0,.int .u64 0,.int .i64 0,.bool false,.slice none 0 0] 46)=W2:=⟨_,rfl⟩
 have hb2:Below (N+1) W1 W2:=by rw [←hW2,←hs1];exact (Below.refl _ _).alloc (Nat.le_refl _) _
 have hs2:W2.heap.size=N+2:=by rw [←hW2];simp;omega
 have hk2:W2.heap[N]? = some (.cells #[.string k.1,.string k.2] 39 (0,0)):=(hb2.block N (by omega)).trans hk1
 have hb12:Below N W W2:=hb1.trans (hb2.mono (by omega))
 rw [hW2,hs1] at HZ
 have hD2:DirM n0 W2 g m n G D:=h.on (by rw [hN];exact hb12)
 have HO:=hid (hD2.of k hk)
 have HA:Hid (∀w',Below W2.heap.size W2 w'→Calls Tryz.prog 292 #[mkP (fOf G D k)] w' fun e w2=>VAns w' ((ofD D k).getLast?) e w2):=fun w' hb=>chain_last (hD2.on hb) k
 obtain ⟨p,hp⟩:∃p,mkP (fOf G D k)=Value.pointer p:=⟨_,rfl⟩
 rw [hp] at HO HA
 have c0:W2.cell? ⟨N,0,none⟩=some (.string k.1):=cz hk2
 have c1:W2.cell? ⟨N,1,none⟩=some (.string k.2):=cz hk2
 have HB:=hid hb12
 obtain ⟨o,ho⟩:∃o,(ofD D k).getLast? = o:=⟨_,rfl⟩
 rw [ho] at HA ⊢
 obtain ⟨ka,kb⟩:=k
 simp only at *
 clear hk1 hk2 hb1 hb2 hb12 hD2 hp h hk ho
 go_enter Tryz.func228,Tryz.ntmps228
 go_wp2_with fail
 refine HO.out.mono ?_
 rintro e w3 ⟨rfl,hb3⟩
 have HA3:=hid (HA.out w3 hb3)
 have HB3:=hid hb3
 have hs3:=hb3.size
 clear hb3 HA HO c0 c1
 go_wp2_with fail
 refine HA3.out.mono ?_
 rintro e w4 ⟨x,rfl,hx,hJ,hq⟩
 have hZ3:=(HZ.out.on HB3.out).on hq
 obtain ⟨q0,q1,q2,q3,q4⟩:=hZ3.cells
 have r0:=hZ3.free 0
 have r1:=hZ3.free 1
 have r2:=hZ3.free 2
 have r3:=hZ3.free 3
 have r4:=hZ3.free 4
 have HX:=hid hx
 have HJ:=hid (own_weakJ hJ (M:=N+2) (by omega))
 have HB4:Hid (Below N W w4):=bel_then (bel_then HB.out (by omega) HB3.out) (by omega) hq
 obtain ⟨xn,xs,xt,xl,xp,xc,xo⟩:=x
 simp only [encVx,Vx.sl] at HJ ⊢
 clear hx hJ hq hZ3 HA3 HZ HB HB3
 go_wp2_with fail
 exact bodyPost_ret (v:=.tuple #[.agg #[.int .i64 xn,.int .u64 xs,.int .i64 xt,.bool xl,.slice xp xo.length xc],.bool o.isSome]) (by simp [results,Tryz.results228,go_sem,q0,q1,q2,q3,q4]) rfl
  ⟨⟨xn,xs,xt,xl,xp,xc,xo⟩,rfl,HX.out,by
   rw [hN]
   refine own_weakJ (N:=N+2) ?_ (by omega)
   exact ownJ_set (ownJ_set (ownJ_set (ownJ_set (ownJ_set HJ.out (by omega) _) (by omega) _) (by omega) _) (by omega) _) (by omega) _,by
   rw [hN]
   exact ((((HB4.out.setCell (by simp) _).setCell (by simp) _).setCell (by simp) _).setCell (by simp) _).setCell (by simp) _⟩
end
section
open Go.RowKit
theorem PrgC.weak {n0 n1:Nat} {w:World} {g:Nat} {d:List Vx} {vs:Value} (h:PrgC n0 w g d vs) (hn:n1≤n0):PrgC n1 w g d vs :=
 ⟨h.cell,h.free,Nat.le_trans hn h.base,Kind.own_weak h.row hn,fun x hx=>⟨own_weakJ (h.each x hx).1 hn,(h.each x hx).2⟩,h.off,h.ok,h.top⟩
def TurnD (n0:Nat) (W:World) (g m:Nat) (G:Ky→Cm) (D:List RowD) (n':Nat) (D':List RowD) (w':World):Prop :=
 ∃G',DirM n0 w' g m n' G' D'∧(∀b,BlkD g m G' D' b→BlkD g m G D b∨W.heap.size≤b)∧Fr (BlkD g m G D) W w'
theorem TurnD.same {n0:Nat} {W w':World} {g m n n':Nat} {G:Ky→Cm} {D:List RowD} (h:DirM n0 W g m n G D) (hb:Below W.heap.size W w') (hn:n≤n'):TurnD n0 W g m G D n' D w' :=
 ⟨G,(h.on hb).mono hn,fun _ hb=>Or.inl hb,Fr.of_below hb⟩
theorem setD_id {k:Ky}:∀{D:List RowD},OkD D→ofD D k≠[]→setD k (ofD D k) D=D
 | [],_,h=>absurd rfl h
 | r::d,ho,h=>by
  have hr:=ho.rise
  rw [List.map_cons] at hr
  unfold setD
  by_cases e:r.1=k
  ·have e2:ofD (r::d) k=r.2:=by unfold ofD;rw [if_pos e]
   rw [if_neg (by rw [←e,totK.irr];simp),if_pos e,e2,←e]
  ·have e2:ofD (r::d) k=ofD d k:=by conv=>lhs;unfold ofD;rw [if_neg e]
   rw [e2] at h ⊢
   have hm:k∈d.map Prod.fst:=(there_iff ho.tail k).2 h
   have hlt:ltKy r.1 k=true:=(List.pairwise_cons.1 hr).1 k hm
   rw [if_neg,if_neg e,setD_id ho.tail h]
   intro hc
   have:=totK.tr _ _ _ hlt hc
   rw [totK.irr] at this
   cases this
theorem dirM_set {n0:Nat} {w3 w4 w5:World} {g m n n':Nat} {G:Ky→Cm} {D:List RowD} (h:DirM n0 w3 g m n G D) (k:Ky) (c0:Cm)
  (hc:(ofD D k≠[]∧c0=G k)∨(ofD D k=[]∧∀b,c0.blk b→¬ BlkD g m G D b)) {l':List Vr} (ht:TurnC n0 w3 c0.g c0.d c0.vs l' w4) (f5:Fr (fun b=>b=m) w4 w5)
  (hm:MapD w5 m n' (fun y=>if y=k then some c0.g else fOf G D y)) (hl:l'≠[]) (hk:keyB k.1 k.2=true) (hok:OkV l') (hnum:(lastV l').num≤n') (hfew:countD (setD k l' D)≤n') (hn:n≤n') :
  ∃G',DirM n0 w5 g m n' G' (setD k l' D)∧(∀b,BlkD g m G' (setD k l' D) b→BlkD g m G D b∨c0.blk b∨w3.heap.size≤b)∧Fr (fun b=>b=m∨c0.blk b) w3 w5:=by
 obtain ⟨d',vs',hp,hv,hblk,f4⟩:=ht
 have hml:=h.map.lt
 have hgl:=cell_block h.cell
 have hgl:g<w3.heap.size:=hgl
 have hold:∀b,c0.blk b→b≠g∧b≠m∧∀y,y≠k→ofD D y≠[]→¬ (G y).blk b:=by
  intro b hb
  rcases hc with ⟨h1,rfl⟩|⟨h1,h2⟩
  ·exact ⟨(h.off k h1 b hb).1,(h.off k h1 b hb).2,fun y hy h3=>h.apart k y h1 h3 (Ne.symm hy) b hb⟩
  ·have:=h2 b hb
   exact ⟨fun e=>this (Or.inl e),fun e=>this (Or.inr (Or.inl e)),fun y _ h3 h4=>this (Or.inr (Or.inr ⟨y,h3,h4⟩))⟩
 have hnew:∀b,BlkC c0.g d' vs' b→b≠g∧b≠m∧∀y,y≠k→ofD D y≠[]→¬ (G y).blk b:=by
  intro b hb
  rcases hblk b hb with hb|hb
  ·exact hold b hb
  ·refine ⟨fun e=>by omega,fun e=>by omega,fun y _ h3 h4=>?_⟩
   have:=((h.prg y h3).1.blk b h4).2
   omega
 have f45:Fr (fun b=>b=m∨c0.blk b) w3 w5:=Fr.then (f4.mono fun b hb=>Or.inr hb) f5 fun b hb=>Or.inl (Or.inl hb)
 have hof:∀y,ofD (setD k l' D) y=if y=k then l' else ofD D y:=fun y=>setD_of k y l' D
 have hne:∀y,y≠k→ofD (setD k l' D) y=ofD D y:=fun y hy=>by rw [hof,if_neg hy]
 have hse:ofD (setD k l' D) k=l':=by rw [hof,if_pos rfl]
 obtain ⟨G',hGk,hG⟩:∃G':Ky→Cm,G' k=⟨c0.g,d',vs'⟩∧∀y,y≠k→G' y=G y:=⟨fun y=>if y=k then ⟨c0.g,d',vs'⟩ else G y,if_pos rfl,fun y hy=>if_neg hy⟩
 refine ⟨G',?_,?_,f45⟩
 ·refine ⟨f45.cell h.cell ?_,h.bg,h.bm,hm.congr fun y _=>?_,fun y hy=>?_,fun k1 k2 h1 h2 h12 b hb1 hb2=>?_,fun y hy b hb=>?_,okD_set h.ok k hok hl,fun y hy=>?_,fun y=>?_,hfew⟩
  ·rintro (e|e)
   ·exact h.ne e
   ·exact (hold g e).1 rfl
  ·by_cases e:y=k
   ·subst e
    rw [if_pos rfl,fOf_some (by rw [hse];exact hl),hGk]
   ·rw [if_neg e]
    unfold fOf
    rw [hne y e,hG y e]
  ·by_cases e:y=k
   ·subst e
    rw [hGk,hse]
    exact ⟨hp.fr f5 fun b hb=>(hnew b hb).2.1,hv⟩
   ·rw [hG y e,hne y e]
    rw [hne y e] at hy
    refine ⟨(h.prg y hy).1.fr f45 fun b hb hP=>?_,(h.prg y hy).2⟩
    rcases hP with hP|hP
    ·exact (h.off y hy b hb).2 hP
    ·exact (hold b hP).2.2 y e hy hb
  ·by_cases e1:k1=k
   ·subst e1
    have e2:k2≠k1:=Ne.symm h12
    rw [hGk] at hb1
    rw [hG k2 e2] at hb2
    rw [hne k2 e2] at h2
    exact (hnew b hb1).2.2 k2 e2 h2 hb2
   ·rw [hG k1 e1] at hb1
    rw [hne k1 e1] at h1
    by_cases e2:k2=k
    ·subst e2
     rw [hGk] at hb2
     exact (hnew b hb2).2.2 k1 e1 h1 hb1
    ·rw [hG k2 e2] at hb2
     rw [hne k2 e2] at h2
     exact h.apart k1 k2 h1 h2 h12 b hb1 hb2
  ·by_cases e:y=k
   ·subst e
    rw [hGk] at hb
    exact ⟨(hnew b hb).1,(hnew b hb).2.1⟩
   ·rw [hG y e] at hb
    rw [hne y e] at hy
    exact h.off y hy b hb
  ·by_cases e:y=k
   ·subst e;exact hk
   ·rw [hne y e] at hy;exact h.key y hy
  ·by_cases e:y=k
   ·subst e;rw [hse];exact hnum
   ·rw [hne y e];have:=h.num y;omega
 ·rintro b (rfl|rfl|⟨y,hy,hb⟩)
  ·exact Or.inl (Or.inl rfl)
  ·exact Or.inl (Or.inr (Or.inl rfl))
  ·by_cases e:y=k
   ·subst e
    rw [hGk] at hb
    rcases hblk b hb with hb|hb
    ·exact Or.inr (Or.inl hb)
    ·exact Or.inr (Or.inr hb)
   ·rw [hG y e] at hb
    rw [hne y e] at hy
    exact Or.inl (Or.inr (Or.inr ⟨y,hy,hb⟩))
end
section
open Go.RowKit
def codeD (D:List RowD) (k:Ky) (stamp:Int) (live:Bool) (val:List Fld):Int:=if keyB k.1 k.2=true then putC (ofD D k) stamp live val else 2
def numD (D:List RowD) (k:Ky) (stamp:Int) (live:Bool) (val:List Fld):Int:=if codeD D k stamp live val=0 then (lastV (ofD D k)).num+1 else 0
def putD (D:List RowD) (k:Ky) (stamp tick:Int) (live:Bool) (val:List Fld):List RowD:=if codeD D k stamp live val=0 then setD k (putV (ofD D k) stamp tick live val) D else D
theorem putV_len (l:List Vr) (stamp tick:Int) (live:Bool) (val:List Fld):(putV l stamp tick live val).length=l.length+1:=by unfold putV;simp
theorem putV_ne (l:List Vr) (stamp tick:Int) (live:Bool) (val:List Fld):putV l stamp tick live val≠[]:=by unfold putV;simp
theorem putV_num (l:List Vr) (stamp tick:Int) (live:Bool) (val:List Fld):(lastV (putV l stamp tick live val)).num=(lastV l).num+1:=by unfold putV;rw [lastV_snoc]
theorem turn_put {n0:Nat} {W wc w4 w5:World} {g m n:Nat} {G:Ky→Cm} {D:List RowD} (h:DirM n0 W g m n G D) (hbc:Below W.heap.size W wc) (k:Ky) (c0:Cm) (hk:keyB k.1 k.2=true)
  (hc:(ofD D k≠[]∧c0=G k)∨(ofD D k=[]∧∀b,c0.blk b→W.heap.size≤b)) {stamp tick:Int} {live:Bool} {val:List Fld} (ht:TurnC n0 wc c0.g c0.d c0.vs (putL (ofD D k) stamp tick live val) w4) (hcode:putC (ofD D k) stamp live val=0)
  (f5:Fr (fun b=>b=m) w4 w5) (hm:MapD w5 m (n+1) (fun y=>if y=k then some c0.g else fOf G D y)):TurnD n0 W g m G D (n+1) (putD D k stamp tick live val) w5:=by
 have hl:putL (ofD D k) stamp tick live val=putV (ofD D k) stamp tick live val:=if_pos hcode
 rw [hl] at ht
 have hok:OkV (putV (ofD D k) stamp tick live val):=by
  obtain ⟨d',vs',hp,hv,_⟩:=ht
  rw [←hv]
  exact hp.ok
 have hcd:codeD D k stamp live val=0:=by unfold codeD;rw [if_pos hk];exact hcode
 have hcnt:=setD_count k (putV (ofD D k) stamp tick live val) h.ok
 rw [putV_len] at hcnt
 have hnum:=h.num k
 have hfew:=h.few
 obtain ⟨G',h1,h2,h3⟩:=dirM_set (h.on hbc) k c0 (hc.imp id fun ⟨a,b⟩=>⟨a,fun x hx hn=>by have:=(h.blk x hn).2;have:=b x hx;omega⟩) ht f5 hm (putV_ne _ _ _ _ _) hk hok (by rw [putV_num];omega) (by omega) (by omega)
 have hs:=hbc.size
 have hcb:∀b,c0.blk b→BlkD g m G D b∨W.heap.size≤b:=fun b hb=>by
  rcases hc with ⟨a,rfl⟩|⟨_,a⟩
  ·exact Or.inl (Or.inr (Or.inr ⟨k,a,hb⟩))
  ·exact Or.inr (a b hb)
 have hD:putD D k stamp tick live val=setD k (putV (ofD D k) stamp tick live val) D:=if_pos hcd
 rw [hD]
 refine ⟨G',h1,fun b hb=>?_,Fr.then (Fr.of_below hbc) h3 fun b hb=>?_⟩
 ·rcases h2 b hb with h|h|h
  ·exact Or.inl h
  ·exact hcb b h
  ·exact Or.inr (by omega)
 ·rcases hb with rfl|hb
  ·exact Or.inl (Or.inr (Or.inl rfl))
  ·exact hcb b hb
theorem turn_not {n0:Nat} {W wc w4:World} {g m n:Nat} {G:Ky→Cm} {D:List RowD} (h:DirM n0 W g m n G D) (hbc:Below W.heap.size W wc) (k:Ky) (c0:Cm) (hk:keyB k.1 k.2=true)
  (hc:(ofD D k≠[]∧c0=G k)∨(ofD D k=[]∧∀b,c0.blk b→W.heap.size≤b)) {stamp tick:Int} {live:Bool} {val:List Fld} (ht:TurnC n0 wc c0.g c0.d c0.vs (putL (ofD D k) stamp tick live val) w4) (hcode:putC (ofD D k) stamp live val≠0):TurnD n0 W g m G D (n+1) (putD D k stamp tick live val) w4:=by
 have hl:putL (ofD D k) stamp tick live val=ofD D k:=if_neg hcode
 rw [hl] at ht
 have hcd:codeD D k stamp live val≠0:=by unfold codeD;rw [if_pos hk];exact hcode
 have hD:putD D k stamp tick live val=D:=if_neg hcd
 rw [hD]
 have hs:=hbc.size
 rcases hc with ⟨a,rfl⟩|⟨a,b⟩
 ·have hok:OkV (ofD D k):=ofD_ok h.ok k
  have hcnt:=setD_count k (ofD D k) h.ok
  have hnum:=h.num k
  have hfew:=h.few
  have hb4:w4.heap[m]? = wc.heap[m]?:=by
   obtain ⟨d',vs',_,_,_,f⟩:=ht
   exact f.block m (Nat.lt_of_lt_of_le h.map.lt hs) fun hb=>(h.off k a m hb).2 rfl
  have hm:MapD w4 m (n+1) (fun y=>if y=k then some (G k).g else fOf G D y):=(((h.map.on (hbc.block m h.map.lt)).on hb4).mono (Nat.le_succ n)).congr fun y _=>by
   by_cases e:y=k
   ·subst e;rw [if_pos rfl,fOf_some a]
   ·rw [if_neg e]
  obtain ⟨G',h1,h2,h3⟩:=dirM_set (h.on hbc) k (G k) (Or.inl ⟨a,rfl⟩) ht (Fr.refl _ _) hm a hk hok (by omega) (by omega) (by omega)
  rw [setD_id h.ok a] at h1 h2
  refine ⟨G',h1,fun x hx=>?_,Fr.then (Fr.of_below hbc) h3 fun x hx=>?_⟩
  ·rcases h2 x hx with h|h|h
   ·exact Or.inl h
   ·exact Or.inl (Or.inr (Or.inr ⟨k,a,h⟩))
   ·exact Or.inr (by omega)
  ·rcases hx with rfl|hx
   ·exact Or.inl (Or.inr (Or.inl rfl))
   ·exact Or.inl (Or.inr (Or.inr ⟨k,a,hx⟩))
 ·obtain ⟨d',vs',_,_,_,f⟩:=ht
  exact TurnD.same h (hbc.trans (f.below hs b)) (Nat.le_succ n)
set_option maxHeartbeats 4000000 in
set_option maxRecDepth 100000 in
theorem dput_any {n0:Nat} {W:World} {g m n:Nat} {G:Ky→Cm} {D:List RowD} (h:DirM n0 W g m n G D) (hn:n<2400000000000) (hn0:n0≤W.heap.size) (k:Ky) (hk:FitK k) (stamp tick:Int) (live:Bool) (v:Value) (e:List Fx) (val:List Fld) (hv:IsXs W v e) (hf:FitX e) (hval:e.map Fx.fld=val) (h0:0≤stamp) :
  Calls Tryz.prog 151 #[.pointer (some ⟨g,0,none⟩),.agg #[.string k.1,.string k.2],.int .u64 stamp,.int .i64 tick,.bool live,v] W fun r w' =>
   r=.returned (.tuple #[.int .i64 (numD D k stamp live val),.int .i64 (codeD D k stamp live val)])∧TurnD n0 W g m G D (n+1) (putD D k stamp tick live val) w':=by
 obtain ⟨N,hN⟩:∃N,W.heap.size=N:=⟨_,rfl⟩
 obtain ⟨W1,hW1⟩:∃W1,W.alloc (.cells #[.string k.1,.string k.2] 39)=W1:=⟨_,rfl⟩
 have hs1:W1.heap.size=N+1:=by rw [←hW1,←hN];simp
 have hb1:Below N W W1:=by rw [←hW1,←hN];exact (Below.refl _ _).alloc (Nat.le_refl _) _
 have hk1:W1.heap[N]? = some (.cells #[.string k.1,.string k.2] 39 (0,0)):=by rw [←hW1,←hN];exact heap_alloc_new W _
 have KC:Hid (∀w',Below W1.heap.size W1 w'→w'.cell? ⟨N,0,none⟩=some (.string k.1)∧w'.cell? ⟨N,1,none⟩=some (.string k.2)):=fun w' hb=>by
  have:=(hb.block N (by omega)).trans hk1
  exact ⟨by rw [Lib.cell_of_heap this];rfl,by rw [Lib.cell_of_heap this];rfl⟩
 have KB:Hid (∀w',Below W1.heap.size W1 w'→Below W.heap.size W w'):=fun w' hb=>by rw [hN];exact bel_then hb1 (by omega) hb
 have HK:=hid (key_any k.1 k.2 W1 hk.1 hk.2)
 have HO:Hid (∀w',Below W1.heap.size W1 w'→Calls Tryz.prog 175 #[.pointer (some ⟨g,0,none⟩),.agg #[.string k.1,.string k.2]] w' fun e w2=>e=.returned (mkP (fOf G D k))∧Below w'.heap.size w' w2):=fun w' hb=>(h.on (KB.out w' hb)).of k hk
 have HH:=hid h
 have HV:=hid hv
 obtain ⟨c0,c1⟩:=KC.out W1 (Below.refl _ _)
 have hnum:=h.num k
 cases hkb:keyB k.1 k.2 with
 | false =>
  have HC:Hid (codeD D k stamp live val=2∧numD D k stamp live val=0∧putD D k stamp tick live val=D):=by
   have e1:codeD D k stamp live val=2:=by unfold codeD;rw [hkb];rfl
   refine ⟨e1,?_,?_⟩
   ·unfold numD;rw [e1];rfl
   ·unfold putD;rw [e1];rfl
  rw [HC.out.1,HC.out.2.1,HC.out.2.2]
  rw [hkb] at HK
  obtain ⟨ka,kb⟩:=k
  simp only at *
  clear hk1 hb1 h hk hv hkb
  go_enter Tryz.func151,Tryz.ntmps151
  go_wp2_with fail
  refine HK.out.mono ?_
  rintro e w2 ⟨rfl,hb2⟩
  have HB2:=hid (KB.out w2 hb2)
  clear hb2
  go_wp2_with fail
  go_ret2
  exact ⟨rfl,TurnD.same HH.out HB2.out (Nat.le_succ n)⟩
 | true =>
  rw [hkb] at HK
  have HCO:Hid (codeD D k stamp live val=putC (ofD D k) stamp live val):=by show _=_;unfold codeD;rw [hkb];rfl
  have HKB:=hid hkb
  have hcell:=h.cell
  have hgm:g<W.heap.size:=cell_block hcell
  have hml:=h.map.lt
  have KG:Hid (∀w':World,w'.heap[g]? = W.heap[g]?→w'.cell? ⟨g,0,none⟩=some (.map (some m))):=fun w' he=>(World.cell?_of_block he).trans hcell
  by_cases hof:ofD D k=[]
  ·skip
   have HPU:Hid (∀w' wc,Below W1.heap.size W1 w'→PrgC w'.heap.size wc w'.heap.size [] (.slice none 0 0)→Below w'.heap.size w' wc→Calls Tryz.prog 233 #[.pointer (some ⟨w'.heap.size,0,none⟩),.int .u64 stamp,.int .i64 tick,.bool live,v] wc fun r w2 =>
     r=.returned (.tuple #[.int .i64 (putN (ofD D k) stamp live val),.int .i64 (putC (ofD D k) stamp live val)])∧TurnC n0 wc w'.heap.size [] (.slice none 0 0) (putL (ofD D k) stamp tick live val) w2):=fun w' wc hb hp hbc=>by
    have hb':=KB.out w' hb
    have hs':=hb'.size
    have:=put_any (hp.weak (show n0≤w'.heap.size by omega)) stamp tick live v e val ((HV.out.kept hb').kept hbc) hf hval h0 (by show (0:Int)<_;omega)
    rw [hof]
    exact this
   have HOP:Hid (∀w':World,Below W1.heap.size W1 w'→∀b,BlkC w'.heap.size [] (.slice none 0 0) b→b=w'.heap.size∧N+1≤b):=fun w' hb b hx=>by
    have hs':=hb.size
    rcases hx with rfl|hx|⟨x,hx,_⟩
    ·exact ⟨rfl,by omega⟩
    ·cases hx
    ·simp at hx
   rw [fOf_none hof] at HO
   simp only [mkP,Option.map_none] at HO
   obtain ⟨cd,hcd⟩:∃cd,putC (ofD D k) stamp live val=cd:=⟨_,rfl⟩
   obtain ⟨pn,hpn⟩:∃pn,putN (ofD D k) stamp live val=pn:=⟨_,rfl⟩
   rw [hcd,hpn] at HPU
   by_cases hz:cd=0
   ·have hcb:(cd != 0)=false:=by rw [hz];rfl
    have HC:Hid (codeD D k stamp live val=0∧numD D k stamp live val=pn):=by
     have e1:codeD D k stamp live val=0:=by rw [HCO.out,hcd,hz]
     refine ⟨e1,?_⟩
     unfold numD
     rw [if_pos e1,←hpn]
     unfold putN
     rw [hcd,hz,if_pos rfl]
    have HZ:Hid (putC (ofD D k) stamp live val=0):=hcd.trans hz
    rw [HC.out.1,HC.out.2]
    obtain ⟨ka,kb⟩:=k
    simp only at *
    clear hk1 hb1 h hv hkb hcd hpn hcell
    go_enter Tryz.func151,Tryz.ntmps151
    go_wp2_with fail
    refine HK.out.mono ?_
    rintro e w2 ⟨rfl,hb2⟩
    obtain ⟨c0,c1⟩:=KC.out w2 hb2
    have HO2:=hid (HO.out w2 hb2)
    have HB2:=hid hb2
    clear hb2
    go_wp2_with fail
    refine HO2.out.mono ?_
    rintro e w3 ⟨rfl,hb3⟩
    have HB3:Hid (Below W1.heap.size W1 w3):=bel_then HB2.out HB2.out.size hb3
    clear hb3 c0 c1
    have HN3:=hid (new_any w3)
    go_wp2_with fail
    refine HN3.out.mono ?_
    rintro e wc ⟨rfl,hpc,hbc⟩
    have HBC:Hid (Below W1.heap.size W1 wc):=bel_then HB3.out HB3.out.size hbc
    have HP3:=hid (HPU.out w3 wc HB3.out hpc hbc)
    have hs3:=HB3.out.size
    clear hpc hbc HN3
    go_wp2_with fail
    refine HP3.out.mono ?_
    rintro e w4 ⟨rfl,ht⟩
    have HT:=hid ht
    obtain ⟨c0,c1⟩:=KC.out wc HBC.out
    have hfr:Fr (BlkC w3.heap.size [] (.slice none 0 0)) wc w4:=by obtain ⟨_,_,_,_,_,f⟩:=ht;exact f
    have hN4:w4.heap[N]? = wc.heap[N]?:=hfr.block N (by have:=HBC.out.size;omega) (fun hb=>by have:=(HOP.out w3 HB3.out N hb).2;omega)
    have hg4:w4.heap[g]? = W.heap[g]?:=(hfr.block g (Nat.lt_of_lt_of_le hgm (KB.out _ HBC.out).size) (fun hb=>by have:=(HOP.out w3 HB3.out g hb).2;omega)).trans ((KB.out _ HBC.out).block g hgm)
    have hm4:w4.heap[m]? = W.heap[m]?:=(hfr.block m (Nat.lt_of_lt_of_le hml (KB.out _ HBC.out).size) (fun hb=>by have:=(HOP.out w3 HB3.out m hb).2;omega)).trans ((KB.out _ HBC.out).block m hml)
    have d0:w4.cell? ⟨N,0,none⟩=some (.string ka):=(World.cell?_of_block hN4).trans c0
    have d1:w4.cell? ⟨N,1,none⟩=some (.string kb):=(World.cell?_of_block hN4).trans c1
    have d2:=KG.out w4 hg4
    obtain ⟨w5,hrun,hM5,hg5⟩:=mapD_put (W:=w4.drew) (HH.out.map.on hm4) (k:=(ka,kb)) hk (by unfold maxLen;omega) w3.heap.size
    simp only [valK,mkP,Option.map_some] at hrun
    have HM5:=hid hM5
    have HG5:=hid hg5
    clear hM5 hg5 ht hfr hN4 hg4 hm4 c0 c1
    go_wp2_with fail
    refine wp_region_held_drew (S:=fun w'=>w'.cell? ⟨g,0,none⟩=some (.map (some m))∧w'.cell? ⟨N,0,none⟩=some (.string ka)∧w'.cell? ⟨N,1,none⟩=some (.string kb)) (by kernel_rfl) ⟨d2,d0,d1⟩ (fun hHeld=>?_)
    refine tkv 0 (.pointer (some ⟨g,0,none⟩)) hHeld ?_
    simp only [Act.put,sz]
    refine tkv 1 (.pointer (some ⟨g,0,none⟩)) hHeld ?_
    simp only [Act.put,sz]
    refine tkv 2 (.pointer (some ⟨g,0,none⟩)) hHeld ?_
    simp only [Act.put,sz]
    refine tkv 3 (.map (some m)) hHeld ?_
    simp only [Act.put,sz]
    refine tkv 4 (.agg #[.string ka,.string kb]) hHeld ?_
    simp only [Act.put,sz]
    refine tkv 5 (.pointer (some ⟨w3.heap.size,0,none⟩)) hHeld ?_
    simp only [Act.put,sz]
    refine wpAnyH_ready (rs:=[6]) (by kernel_rfl) (by simp) ?_
    refine AllReadyH.cons (at_drop0 rfl) (fun K hK=>?_) AllReadyH.nil
    rw [if_pos (by rfl)]
    go_simp
    have f5:Fr (fun b=>b=m) w4 w5:=by
     have q:=Fr.of_grown (P:=fun b=>b=m) HG5.out fun k hk=>by injection hk with hk;exact hk.symm
     exact ⟨q.os,q.tape,q.output,q.size,q.block⟩
    have q5:w5.cell? ⟨g,0,none⟩=some (.map (some m))∧w5.cell? ⟨N,0,none⟩=some (.string ka)∧w5.cell? ⟨N,1,none⟩=some (.string kb) :=
     ⟨f5.cell d2 HH.out.ne,f5.cell d0 (by show N≠m;omega),f5.cell d1 (by show N≠m;omega)⟩
    refine hK.out _ _ q5 (fun hHeld=>?_)
    clear hK K
    try simp only [Act.put,sz]
    refine wpAnyH_done (by kernel_rfl) ?_ _
    go_wp2_with fail
    go_ret2
    exact ⟨rfl,turn_put HH.out (KB.out _ HBC.out) (ka,kb) ⟨w3.heap.size,[],.slice none 0 0⟩ HKB.out (Or.inr ⟨hof,fun b hb=>by have:=(HOP.out w3 HB3.out b hb).2;omega⟩) HT.out HZ.out f5 HM5.out⟩
   ·have hcb:(cd != 0)=true:=by simpa using hz
    have HC:Hid (codeD D k stamp live val=cd∧numD D k stamp live val=0):=by
     have e1:codeD D k stamp live val=cd:=by rw [HCO.out,hcd]
     refine ⟨e1,?_⟩
     unfold numD
     rw [e1,if_neg hz]
    have HZ:Hid (putC (ofD D k) stamp live val≠0):=by show _≠_;rw [hcd];exact hz
    rw [HC.out.1,HC.out.2]
    obtain ⟨ka,kb⟩:=k
    simp only at *
    clear hk1 hb1 h hv hkb hcd hpn hcell hz
    go_enter Tryz.func151,Tryz.ntmps151
    go_wp2_with fail
    refine HK.out.mono ?_
    rintro e w2 ⟨rfl,hb2⟩
    obtain ⟨c0,c1⟩:=KC.out w2 hb2
    have HO2:=hid (HO.out w2 hb2)
    have HB2:=hid hb2
    clear hb2
    go_wp2_with fail
    refine HO2.out.mono ?_
    rintro e w3 ⟨rfl,hb3⟩
    have HB3:Hid (Below W1.heap.size W1 w3):=bel_then HB2.out HB2.out.size hb3
    clear hb3 c0 c1
    have HN3:=hid (new_any w3)
    go_wp2_with fail
    refine HN3.out.mono ?_
    rintro e wc ⟨rfl,hpc,hbc⟩
    have HBC:Hid (Below W1.heap.size W1 wc):=bel_then HB3.out HB3.out.size hbc
    have HP3:=hid (HPU.out w3 wc HB3.out hpc hbc)
    have hs3:=HB3.out.size
    clear hpc hbc HN3
    go_wp2_with fail
    refine HP3.out.mono ?_
    rintro e w4 ⟨rfl,ht⟩
    have HT:=hid ht
    clear ht
    go_wp2_with fail
    go_ret2
    exact ⟨rfl,turn_not HH.out (KB.out _ HBC.out) (ka,kb) ⟨w3.heap.size,[],.slice none 0 0⟩ HKB.out (Or.inr ⟨hof,fun b hb=>by have:=(HOP.out w3 HB3.out b hb).2;omega⟩) HT.out HZ.out⟩
  ·skip
   have hpr:=h.prg k hof
   have hoff:=h.off k hof
   have HPU:Hid (∀w',Below W1.heap.size W1 w'→Calls Tryz.prog 233 #[.pointer (some ⟨(G k).g,0,none⟩),.int .u64 stamp,.int .i64 tick,.bool live,v] w' fun r w2 =>
     r=.returned (.tuple #[.int .i64 (putN (ofD D k) stamp live val),.int .i64 (putC (ofD D k) stamp live val)])∧TurnC n0 w' (G k).g (G k).d (G k).vs (putL (ofD D k) stamp tick live val) w2):=fun w' hb=>by
    have hb':=KB.out w' hb
    have:=put_any (hpr.1.on hb') stamp tick live v e val (HV.out.kept hb') hf hval h0 (by rw [hpr.2];omega)
    rwa [hpr.2] at this
   have HOP:Hid (∀b,(G k).blk b→b≠g∧b≠m∧b<N):=fun b hb=>⟨(hoff b hb).1,(hoff b hb).2,by rw [←hN];exact (hpr.1.blk b hb).2⟩
   rw [fOf_some hof] at HO
   simp only [mkP,Option.map_some] at HO
   clear hpr hoff
   obtain ⟨cd,hcd⟩:∃cd,putC (ofD D k) stamp live val=cd:=⟨_,rfl⟩
   obtain ⟨pn,hpn⟩:∃pn,putN (ofD D k) stamp live val=pn:=⟨_,rfl⟩
   rw [hcd,hpn] at HPU
   by_cases hz:cd=0
   ·have hcb:(cd != 0)=false:=by rw [hz];rfl
    have HC:Hid (codeD D k stamp live val=0∧numD D k stamp live val=pn):=by
     have e1:codeD D k stamp live val=0:=by rw [HCO.out,hcd,hz]
     refine ⟨e1,?_⟩
     unfold numD
     rw [if_pos e1,←hpn]
     unfold putN
     rw [hcd,hz,if_pos rfl]
    have HZ:Hid (putC (ofD D k) stamp live val=0):=hcd.trans hz
    rw [HC.out.1,HC.out.2]
    obtain ⟨ka,kb⟩:=k
    simp only at *
    clear hk1 hb1 h hv hkb hcd hpn hcell
    go_enter Tryz.func151,Tryz.ntmps151
    go_wp2_with fail
    refine HK.out.mono ?_
    rintro e w2 ⟨rfl,hb2⟩
    obtain ⟨c0,c1⟩:=KC.out w2 hb2
    have HO2:=hid (HO.out w2 hb2)
    have HB2:=hid hb2
    clear hb2
    go_wp2_with fail
    refine HO2.out.mono ?_
    rintro e w3 ⟨rfl,hb3⟩
    have HB3:Hid (Below W1.heap.size W1 w3):=bel_then HB2.out HB2.out.size hb3
    clear hb3 c0 c1
    have HP3:=hid (HPU.out w3 HB3.out)
    go_wp2_with fail
    refine HP3.out.mono ?_
    rintro e w4 ⟨rfl,ht⟩
    have HT:=hid ht
    obtain ⟨c0,c1⟩:=KC.out w3 HB3.out
    have hfr:Fr (BlkC (G (ka,kb)).g (G (ka,kb)).d (G (ka,kb)).vs) w3 w4:=by obtain ⟨_,_,_,_,_,f⟩:=ht;exact f
    have hN4:w4.heap[N]? = w3.heap[N]?:=hfr.block N (by have:=HB3.out.size;omega) (fun hb=>by have:=(HOP.out N hb).2.2;omega)
    have hg4:w4.heap[g]? = W.heap[g]?:=(hfr.block g (Nat.lt_of_lt_of_le hgm (KB.out _ HB3.out).size) (fun hb=>(HOP.out g hb).1 rfl)).trans ((KB.out _ HB3.out).block g hgm)
    have hm4:w4.heap[m]? = W.heap[m]?:=(hfr.block m (Nat.lt_of_lt_of_le hml (KB.out _ HB3.out).size) (fun hb=>(HOP.out m hb).2.1 rfl)).trans ((KB.out _ HB3.out).block m hml)
    have d0:w4.cell? ⟨N,0,none⟩=some (.string ka):=(World.cell?_of_block hN4).trans c0
    have d1:w4.cell? ⟨N,1,none⟩=some (.string kb):=(World.cell?_of_block hN4).trans c1
    have d2:=KG.out w4 hg4
    obtain ⟨w5,hrun,hM5,hg5⟩:=mapD_put (W:=w4.drew) (HH.out.map.on hm4) (k:=(ka,kb)) hk (by unfold maxLen;omega) (G (ka,kb)).g
    simp only [valK,mkP,Option.map_some] at hrun
    have HM5:=hid hM5
    have HG5:=hid hg5
    clear hM5 hg5 ht hfr hN4 hg4 hm4 c0 c1
    go_wp2_with fail
    refine wp_region_held_drew (S:=fun w'=>w'.cell? ⟨g,0,none⟩=some (.map (some m))∧w'.cell? ⟨N,0,none⟩=some (.string ka)∧w'.cell? ⟨N,1,none⟩=some (.string kb)) (by kernel_rfl) ⟨d2,d0,d1⟩ (fun hHeld=>?_)
    refine tkv 0 (.pointer (some ⟨g,0,none⟩)) hHeld ?_
    simp only [Act.put,sz]
    refine tkv 1 (.pointer (some ⟨g,0,none⟩)) hHeld ?_
    simp only [Act.put,sz]
    refine tkv 2 (.pointer (some ⟨g,0,none⟩)) hHeld ?_
    simp only [Act.put,sz]
    refine tkv 3 (.map (some m)) hHeld ?_
    simp only [Act.put,sz]
    refine tkv 4 (.agg #[.string ka,.string kb]) hHeld ?_
    simp only [Act.put,sz]
    refine tkv 5 (.pointer (some ⟨(G (ka,kb)).g,0,none⟩)) hHeld ?_
    simp only [Act.put,sz]
    refine wpAnyH_ready (rs:=[6]) (by kernel_rfl) (by simp) ?_
    refine AllReadyH.cons (at_drop0 rfl) (fun K hK=>?_) AllReadyH.nil
    rw [if_pos (by rfl)]
    go_simp
    have f5:Fr (fun b=>b=m) w4 w5:=by
     have q:=Fr.of_grown (P:=fun b=>b=m) HG5.out fun k hk=>by injection hk with hk;exact hk.symm
     exact ⟨q.os,q.tape,q.output,q.size,q.block⟩
    have q5:w5.cell? ⟨g,0,none⟩=some (.map (some m))∧w5.cell? ⟨N,0,none⟩=some (.string ka)∧w5.cell? ⟨N,1,none⟩=some (.string kb) :=
     ⟨f5.cell d2 HH.out.ne,f5.cell d0 (by show N≠m;omega),f5.cell d1 (by show N≠m;omega)⟩
    refine hK.out _ _ q5 (fun hHeld=>?_)
    clear hK K
    try simp only [Act.put,sz]
    refine wpAnyH_done (by kernel_rfl) ?_ _
    go_wp2_with fail
    go_ret2
    exact ⟨rfl,turn_put HH.out (KB.out _ HB3.out) (ka,kb) (G (ka,kb)) HKB.out (Or.inl ⟨hof,rfl⟩) HT.out HZ.out f5 HM5.out⟩
   ·have hcb:(cd != 0)=true:=by simpa using hz
    have HC:Hid (codeD D k stamp live val=cd∧numD D k stamp live val=0):=by
     have e1:codeD D k stamp live val=cd:=by rw [HCO.out,hcd]
     refine ⟨e1,?_⟩
     unfold numD
     rw [e1,if_neg hz]
    have HZ:Hid (putC (ofD D k) stamp live val≠0):=by show _≠_;rw [hcd];exact hz
    rw [HC.out.1,HC.out.2]
    obtain ⟨ka,kb⟩:=k
    simp only at *
    clear hk1 hb1 h hv hkb hcd hpn hcell hz
    go_enter Tryz.func151,Tryz.ntmps151
    go_wp2_with fail
    refine HK.out.mono ?_
    rintro e w2 ⟨rfl,hb2⟩
    obtain ⟨c0,c1⟩:=KC.out w2 hb2
    have HO2:=hid (HO.out w2 hb2)
    have HB2:=hid hb2
    clear hb2
    go_wp2_with fail
    refine HO2.out.mono ?_
    rintro e w3 ⟨rfl,hb3⟩
    have HB3:Hid (Below W1.heap.size W1 w3):=bel_then HB2.out HB2.out.size hb3
    clear hb3 c0 c1
    have HP3:=hid (HPU.out w3 HB3.out)
    go_wp2_with fail
    refine HP3.out.mono ?_
    rintro e w4 ⟨rfl,ht⟩
    have HT:=hid ht
    clear ht
    go_wp2_with fail
    go_ret2
    exact ⟨rfl,turn_not HH.out (KB.out _ HB3.out) (ka,kb) (G (ka,kb)) HKB.out (Or.inl ⟨hof,rfl⟩) HT.out HZ.out⟩
end
section
open Go.RowKit
theorem sum_sub {F:Ky→Nat}:∀{s t:List Ky},s.Nodup→(∀k∈s,k∈t)→(s.map F).sum≤(t.map F).sum
 | [],_,_,_=>Nat.zero_le _
 | k::s,t,hn,hs=>by
  obtain ⟨h1,h2⟩:=List.nodup_cons.1 hn
  obtain ⟨a,b,rfl⟩:=List.append_of_mem (hs k List.mem_cons_self)
  have ih:=sum_sub (F:=F) (s:=s) (t:=a++b) h2 fun x hx=>by
   have:=hs x (List.mem_cons_of_mem _ hx)
   rw [List.mem_append,List.mem_cons] at this
   rw [List.mem_append]
   rcases this with h|rfl|h
   ·exact Or.inl h
   ·exact absurd hx h1
   ·exact Or.inr h
  simp only [List.map_append,List.map_cons,List.sum_append,List.sum_cons] at ih ⊢
  omega
theorem sum_same {F:Ky→Nat} {s t:List Ky} (hs:s.Nodup) (ht:t.Nodup) (h:∀k,k∈s↔k∈t):(s.map F).sum=(t.map F).sum :=
 Nat.le_antisymm (sum_sub hs fun k hk=>(h k).1 hk) (sum_sub ht fun k hk=>(h k).2 hk)
theorem rise_nodup {l:List Ky} (h:RisingR ltKy l):l.Nodup:=h.imp fun {a b} hab e=>by
 rw [e,totK.irr] at hab
 cases hab
theorem sum_keys {D:List RowD} (h:OkD D) (f:List Vr→Nat):((D.map Prod.fst).map fun k=>f (ofD D k)).sum=(D.map fun r=>f r.2).sum:=by
 rw [List.map_map]
 congr 1
 refine List.map_congr_left fun r hr=>?_
 show f (ofD D r.1)=f r.2
 rw [ofD_mem h hr]
theorem seen_all {D:List RowD} (h:OkD D) (f:List Vr→Nat) {seen:List Ky} (hn:seen.Nodup) (h1:∀k∈seen,ofD D k≠[]) (h2:∀k,ofD D k≠[]→k∈seen):(seen.map fun k=>f (ofD D k)).sum=(D.map fun r=>f r.2).sum:=by
 rw [←sum_keys h f]
 exact sum_same hn (rise_nodup h.rise) fun k=>⟨fun hk=>(there_iff h k).2 (h1 k hk),fun hk=>h2 k ((there_iff h k).1 hk)⟩
theorem seen_some {D:List RowD} (h:OkD D) (f:List Vr→Nat) {seen:List Ky} (hn:seen.Nodup) (h1:∀k∈seen,ofD D k≠[]):(seen.map fun k=>f (ofD D k)).sum≤(D.map fun r=>f r.2).sum:=by
 rw [←sum_keys h f]
 exact sum_sub hn fun k hk=>(there_iff h k).2 (h1 k hk)
theorem fOf_iff {G:Ky→Cm} {D:List RowD} {k:Ky}:(fOf G D k).isSome=true↔ofD D k≠[]:=by
 by_cases e:ofD D k=[]
 ·rw [fOf_none e];simp [e]
 ·rw [fOf_some e];simp [e]
theorem MapD.uniq {W:World} {m n n':Nat} {f f':Ky→Option Nat} (h:MapD W m n f) (h':MapD W m n' f') {k:Ky} (hk:FitK k):f k=f' k:=by
 have h1:=mapD_look h hk
 rw [mapD_look h' hk] at h1
 injection h1 with h1
 unfold mkP at h1
 injection h1 with h1
 cases ha:f k<;>cases hb:f' k<;>rw [ha,hb] at h1<;>simp at h1
 ·rw [h1]
theorem count_snoc (F:Ky→Nat) (s:List Ky) (k:Ky):((s++[k]).map F).sum=(s.map F).sum+F k:=by simp
set_option maxHeartbeats 2000000 in
set_option maxRecDepth 100000 in
theorem dcount_any {n0:Nat} {W:World} {g m n:Nat} {G:Ky→Cm} {D:List RowD} (h:DirM n0 W g m n G D) (hn:n≤2400000000000) :
  Calls Tryz.prog 91 #[.pointer (some ⟨g,0,none⟩)] W fun e w'=>e=.returned (.int .i64 (countD D:Nat))∧Below W.heap.size W w':=by
 have HAL:=hid (all_is g m W h.cell)
 have hM:=h.map
 have HH:=hid h
 have HSUM:Hid (∀seen:List Ky,seen.Nodup→(∀k∈seen,FitK k∧(fOf G D k).isSome=true)→(seen.map fun k=>(ofD D k).length).sum≤2400000000000):=fun seen h1 h2=>by
  have:=seen_some HH.out.ok List.length h1 fun k hk=>fOf_iff.1 (h2 k hk).2
  have h3:=HH.out.few
  unfold countD at h3
  omega
 have HEND:Hid (∀seen:List Ky,seen.Nodup→(∀k∈seen,FitK k∧(fOf G D k).isSome=true)→(∀k,FitK k→(fOf G D k).isSome=true→k∈seen)→(seen.map fun k=>(ofD D k).length).sum=countD D):=fun seen h1 h2 h3 =>
  seen_all HH.out.ok List.length h1 (fun k hk=>fOf_iff.1 (h2 k hk).2) fun k hk=>h3 k (key_fit (HH.out.key k hk)) (fOf_iff.2 hk)
 have HLEN:Hid (∀w' k,Below W.heap.size W w'→Calls Tryz.prog 156 #[mkP (fOf G D k)] w' fun e w2=>e=.returned (.int .i64 ((ofD D k).length:Int))∧w2=w'):=fun w' k hb=>chain_len (h.on hb) k
 obtain ⟨N,hN⟩:∃N,W.heap.size=N:=⟨_,rfl⟩
 have hmN:m<N:=by rw [←hN];exact hM.lt
 rw [hN] at HLEN
 clear h
 go_enter Tryz.func91,Tryz.ntmps91
 go_wp2_with fail
 refine HAL.out.mono ?_
 rintro e w0 ⟨rfl,rfl⟩
 go_wp2_with (at_range;refine wp_range_D _ rfl _ rfl m n (fOf G D) rfl hM ?_;intro w1 cnt0 hr0 hg0 hs0)
 go_frame
 try rw [hN] at hr0
 try rw [hN]
 have HR0:=hid hr0
 have HB0:Hid (Below N w0 w1):=by
  have:=Fr.of_grown (P:=fun _=>False) hg0 fun k hk=>by cases hk
  exact this.below (by omega) fun k hk=>hk.elim
 clear hr0 hg0 hs0 HAL hM
 go_loopg [3] cnt0 (fun gg vn wr=>∃(seen:List Ky) (cnt:Nat),vn=.int .i64 ((seen.map fun k=>(ofD D k).length).sum:Nat)∧cnt≤gg∧Hid (RangeD wr m N n (fOf G D) seen cnt)∧Hid (Below N w0 wr))
 case atStart=>exact ⟨[],cnt0,rfl,Nat.le_refl _,HR0.out,HB0.out⟩
 case round =>
  clear HR0 HB0
  obtain ⟨seen,cnt,rfl,hgk,HR,HB⟩:=hrel
  have hr:=HR.out
  have hnd:=hr.nodup
  go_wp2_with (at_next;refine wp_next_D _ rfl _ rfl m N n (fOf G D) seen cnt rfl hr ?_ ?_)
  ·intro hall
   have HE:=hid (HEND.out seen hnd.1 hnd.2.1 fun k h1 h2=>hall k.1 k.2 h1 h2)
   clear hall hr hnd
   go_wp2_with fail
   go_ret
   rw [HE.out,hN]
   exact ⟨rfl,HB.out⟩
  ·intro ka kb b w2 cnt2 hkf hks hfb hr2 hlt hg2 hs2 hen
   obtain ⟨k,hkk⟩:∃k:Ky,(ka,kb)=k:=⟨_,rfl⟩
   rw [hkk] at hkf hks hfb hr2
   have hB2:Below N w0 w2:=by
    have:=Fr.of_grown (P:=fun b=>b=N) hg2 fun k hk=>by injection hk with hk;exact hk.symm
    exact HB.out.trans (this.below (by have:=hr.lt;omega) fun k hk=>by omega)
   have HL:=hid (HLEN.out w2 k hB2)
   rw [hfb] at HL
   have hb3:=HSUM.out (seen++[k]) hr2.nodup.1 hr2.nodup.2.1
   rw [count_snoc] at hb3
   have HE3:=hid (count_snoc (fun k=>(ofD D k).length) seen k)
   have HR2:=hid hr2
   have HB2:=hid hB2
   obtain ⟨sm,hsm⟩:∃sm,(seen.map fun k=>(ofD D k).length).sum=sm:=⟨_,rfl⟩
   obtain ⟨ln,hln⟩:∃ln,(ofD D k).length=ln:=⟨_,rfl⟩
   rw [hsm,hln] at hb3 HE3
   rw [hsm]
   rw [hln] at HL
   have e1:IntKind.i64.wrap ((sm:Int)+(ln:Int))=((sm+ln:Nat):Int):=by rw [IntKind.wrap_i64];omega
   subst hkk
   simp only [valK,mkP,Option.map_some] at hen HL ⊢
   clear hr hr2 hnd hB2 hg2 hfb hsm hln hkf hks
   go_wp2_with fail
   refine HL.out.mono ?_
   rintro e w3 ⟨rfl,rfl⟩
   go_wp2_with fail
   go_roundg cnt2
   case measure=>omega
   exact ⟨seen++[(ka,kb)],cnt2,by rw [HE3.out];go_num,Nat.le_refl _,HR2.out,HB2.out⟩
end
section
open Go.RowKit
theorem cell_cells {w:World} {b o:Nat} {v:Value} (h:w.cell? ⟨b,o,none⟩=some v):∃cs t fz,w.heap[b]? = some (.cells cs t fz):=by
 unfold World.cell? at h
 split at h
 ·next cs t fz hh=>exact ⟨_,_,_,hh⟩
 ·cases h
theorem PrgC.cells {n0:Nat} {w:World} {g:Nat} {d:List Vx} {vs:Value} (h:PrgC n0 w g d vs) {b:Nat} (hb:BlkC g d vs b):∃cs t fz,w.heap[b]? = some (.cells cs t fz):=by
 rcases hb with rfl|hb|⟨x,hx,hb⟩
 ·exact cell_cells h.cell
 ·obtain ⟨cs,hc⟩:=own_type (show w.ownsRow n0 46 5 vs d.length (KV.cells d) from h.row) hb
  exact ⟨_,_,_,hc⟩
 ·rcases hb with hb|⟨f,hf,hb⟩
  ·obtain ⟨cs,hc⟩:=own_type (h.each x hx).1.1.1 hb
   exact ⟨_,_,_,hc⟩
  ·obtain ⟨cs,hc⟩:=own_type ((h.each x hx).1.1.2 f hf) hb
   exact ⟨_,_,_,hc⟩
theorem DirM.noIter {n0:Nat} {W:World} {g m n:Nat} {G:Ky→Cm} {D:List RowD} (h:DirM n0 W g m n G D) {b:Nat} (hb:BlkD g m G D b) {x:Option Nat} {s:Nat} {a:Array Nat} {c:Nat}:W.heap[b]?≠some (.mapIter x s a c):=by
 intro he
 rcases hb with rfl|rfl|⟨k,hk,hb⟩
 ·obtain ⟨cs,t,fz,hc⟩:=cell_cells h.cell
  rw [hc] at he;cases he
 ·obtain ⟨es,cl,hc⟩:=h.map.obj
  rw [hc] at he;cases he
 ·obtain ⟨cs,t,fz,hc⟩:=(h.prg k hk).1.cells hb
  rw [hc] at he;cases he
theorem dir_ext {D E:List RowD} (hD:OkD D) (hE:OkD E) (hk:E.map Prod.fst=D.map Prod.fst) (ho:∀k,ofD E k=ofD D k):E=D:=by
 have e:∀{X:List RowD},OkD X→X=(X.map Prod.fst).map fun k=>(k,ofD X k):=fun {X} hX=>by
  rw [List.map_map]
  refine (List.map_id X).symm.trans (List.map_congr_left fun r hr=>?_)
  show r=(r.1,ofD X r.1)
  rw [ofD_mem hX hr]
 rw [e hD,e hE,hk]
 exact List.map_congr_left fun k _=>by rw [ho]
theorem setD_there {k:Ky} {l:List Vr} {D:List RowD} (h:OkD D) (hk:ofD D k≠[]):(setD k l D).map Prod.fst=D.map Prod.fst:=by
 rw [setD_keys]
 exact insR_there totK h.rise ((there_iff h k).2 hk)
def PrIn (n0:Nat) (W:World) (g m n:Nat) (G:Ky→Cm) (D:List RowD) (f:Int) (r:Nat) (seen:List Ky) (cnt:Nat) (wr:World):Prop :=
 ∃G' D',RangeD wr m r n (fOf G D) seen cnt∧DirM n0 wr g m n G' D'∧D'.map Prod.fst=D.map Prod.fst∧(∀k∈seen,ofD D' k=pruneV (ofD D k) f)∧(∀k,k ∉ seen→ofD D' k=ofD D k) ∧
  (∀b,BlkD g m G' D' b→BlkD g m G D b∨W.heap.size≤b)∧Fr (BlkD g m G D) W wr
theorem PrIn.range {n0:Nat} {W:World} {g m n:Nat} {G:Ky→Cm} {D:List RowD} {f:Int} {r:Nat} {seen:List Ky} {cnt:Nat} {wr:World} (h:PrIn n0 W g m n G D f r seen cnt wr):RangeD wr m r n (fOf G D) seen cnt:=by
 obtain ⟨_,_,h,_⟩:=h
 exact h
theorem prune_num (l:List Vr) (f:Int):(lastV (pruneV l f)).num=(lastV l).num:=by
 by_cases e:l=[]
 ·subst e;rfl
 ·have h1:=prune_last l f
  unfold lastV
  rw [h1]
theorem pr_chain {n0:Nat} {W:World} {g m n:Nat} {G:Ky→Cm} {D:List RowD} {f:Int} {r:Nat} {seen:List Ky} {cnt cnt2:Nat} {wr w2:World} (hD:OkD D) (h:PrIn n0 W g m n G D f r seen cnt wr) (hr:W.heap.size≤r) {k:Ky} {b:Nat} (hkf:FitK k) (hks:k ∉ seen) (hfb:fOf G D k=some b)
  (hr2:RangeD w2 m r n (fOf G D) (seen++[k]) cnt2) (hg2:wr.grownBy w2 (some r)) :
  Calls Tryz.prog 179 #[.pointer (some ⟨b,0,none⟩),.int .u64 f] w2 fun e w3=>e=.returned (.int .i64 (pruneN (ofD D k) f:Nat))∧PrIn n0 W g m n G D f r (seen++[k]) cnt2 w3:=by
 obtain ⟨G',D',a1,a2,a3,a4,a5,a6,a7⟩:=h
 obtain ⟨si,sn,sc,hit⟩:=a1.iter
 have f2:Fr (fun x=>x=r) wr w2:=Fr.of_grown hg2 fun x hx=>by injection hx with hx;exact hx.symm
 have hD2:DirM n0 w2 g m n G' D':=a2.fr f2 fun x hx e=>by subst e;exact a2.noIter hx hit
 have hne:ofD D k≠[]:=fOf_iff.1 (by rw [hfb];rfl)
 have hok':ofD D' k=ofD D k:=a5 k hks
 have hne':ofD D' k≠[]:=by rw [hok'];exact hne
 have hgb:(G' k).g=b:=by
  have:=MapD.uniq hD2.map hr2.map hkf
  rw [fOf_some hne',hfb] at this
  injection this
 have hp:=(hD2.prg k hne').1
 have hv:=(hD2.prg k hne').2
 rw [←hgb]
 refine (prune_any hp f).mono ?_
 rintro e w3 ⟨rfl,ht⟩
 rw [hv,hok'] at ht ⊢
 refine ⟨rfl,?_⟩
 obtain ⟨si2,sn2,sc2,hit2⟩:=hr2.iter
 have hf3:Fr (BlkC (G' k).g (G' k).d (G' k).vs) w2 w3:=by obtain ⟨_,_,_,_,_,f⟩:=ht;exact f
 have hm3:w3.heap[m]? = w2.heap[m]?:=hf3.block m hD2.map.lt fun hb=>(hD2.off k hne' m hb).2 rfl
 have hi3:w3.heap[r]? = w2.heap[r]?:=hf3.block r hr2.lt fun hb=>hD2.noIter (Or.inr (Or.inr ⟨k,hne',hb⟩)) hit2
 have hcnt:=setD_count k (pruneV (ofD D k) f) hD2.ok
 have hlen:=prune_len (ofD D k) f
 have hfew:=hD2.few
 have hnum:=hD2.num k
 rw [hok'] at hcnt hnum
 have hokk:OkV (pruneV (ofD D k) f):=ok_prune (ofD_ok hD k) f
 obtain ⟨G2,b1,b2,b3⟩:=dirM_set hD2 k (G' k) (Or.inl ⟨hne',rfl⟩) ht (Fr.refl _ _) ((hD2.map.on hm3).congr fun y _=>by
   by_cases e:y=k
   ·subst e;rw [if_pos rfl,fOf_some hne']
   ·rw [if_neg e]) (prune_ne hne f) (hD2.key k hne') hokk (by rw [prune_num];exact hnum) (by omega) (Nat.le_refl n)
 have hs2:=a7.size
 have hs2':=f2.size
 refine ⟨G2,_,hr2.on hm3 hi3,b1,(setD_there hD2.ok hne').trans a3,fun y hy=>?_,fun y hy=>?_,fun x hx=>?_,?_⟩
 ·rw [setD_of]
  rcases List.mem_append.1 hy with hy|hy
  ·rw [if_neg (fun e=>hks (by rw [←e];exact hy))]
   exact a4 y hy
  ·rw [List.mem_singleton] at hy
   subst hy
   rw [if_pos rfl]
 ·rw [List.mem_append,not_or,List.mem_singleton] at hy
  rw [setD_of,if_neg hy.2]
  exact a5 y hy.1
 ·rcases b2 x hx with h|h|h
  ·exact a6 x h
  ·exact a6 x (Or.inr (Or.inr ⟨k,hne',h⟩))
  ·exact Or.inr (by omega)
 ·refine Fr.then (Fr.then a7 f2 fun x hx=>?_) b3 fun x hx=>?_
  ·right;rw [hx];exact hr
  ·rcases hx with rfl|hx
   ·exact a6 x (Or.inr (Or.inl rfl))
   ·exact a6 x (Or.inr (Or.inr ⟨k,hne',hx⟩))
theorem pr_start {n0:Nat} {W w1:World} {g m n:Nat} {G:Ky→Cm} {D:List RowD} (h:DirM n0 W g m n G D) (f:Int) {r cnt:Nat} (hr:RangeD w1 m r n (fOf G D) [] cnt) (hb:Below W.heap.size W w1):PrIn n0 W g m n G D f r [] cnt w1 :=
 ⟨G,D,hr,h.on hb,rfl,fun k hk=>by simp at hk,fun _ _=>rfl,fun _ hb=>Or.inl hb,Fr.of_below hb⟩
theorem pr_end {n0:Nat} {W wr:World} {g m n:Nat} {G:Ky→Cm} {D:List RowD} (hM:DirM n0 W g m n G D) {f:Int} {r:Nat} {seen:List Ky} {cnt:Nat} (h:PrIn n0 W g m n G D f r seen cnt wr) (hall:∀k,FitK k→(fOf G D k).isSome=true→k∈seen):TurnD n0 W g m G D n (pruneD D f) wr:=by
 obtain ⟨G',D',a1,a2,a3,a4,a5,a6,a7⟩:=h
 have e:D'=pruneD D f:=by
  refine dir_ext (okD_prune hM.ok f) a2.ok (by rw [a3,pruneD_keys]) fun k=>?_
  rw [pruneD_of]
  by_cases hk:ofD D k=[]
  ·have hns:k ∉ seen:=fun hs=>(fOf_iff.1 (a1.nodup.2.1 k hs).2) hk
   rw [a5 k hns,hk]
   rfl
  ·exact a4 k (hall k (key_fit (hM.key k hk)) (fOf_iff.2 hk))
 subst e
 exact ⟨G',a2,a6,a7⟩
set_option maxHeartbeats 2000000 in
set_option maxRecDepth 100000 in
theorem dprune_any {n0:Nat} {W:World} {g m n:Nat} {G:Ky→Cm} {D:List RowD} (h:DirM n0 W g m n G D) (hn:n≤2400000000000) (f:Int) :
  Calls Tryz.prog 115 #[.pointer (some ⟨g,0,none⟩),.int .u64 f] W fun e w'=>e=.returned (.int .i64 (goneD D f:Nat))∧TurnD n0 W g m G D n (pruneD D f) w':=by
 have HAL:=hid (all_is g m W h.cell)
 have hM:=h.map
 have HH:=hid h
 have HSUM:Hid (∀seen:List Ky,seen.Nodup→(∀k∈seen,FitK k∧(fOf G D k).isSome=true)→(seen.map fun k=>pruneN (ofD D k) f).sum≤2400000000000):=fun seen h1 h2=>by
  have:=seen_some HH.out.ok (fun l=>pruneN l f) h1 fun k hk=>fOf_iff.1 (h2 k hk).2
  have h3:=HH.out.few
  have h4:=pruneD_count D f
  unfold goneD at h4
  omega
 have HEND:Hid (∀seen:List Ky,seen.Nodup→(∀k∈seen,FitK k∧(fOf G D k).isSome=true)→(∀k,FitK k→(fOf G D k).isSome=true→k∈seen)→(seen.map fun k=>pruneN (ofD D k) f).sum=goneD D f):=fun seen h1 h2 h3 =>
  seen_all HH.out.ok (fun l=>pruneN l f) h1 (fun k hk=>fOf_iff.1 (h2 k hk).2) fun k hk=>h3 k (key_fit (HH.out.key k hk)) (fOf_iff.2 hk)
 obtain ⟨N,hN⟩:∃N,W.heap.size=N:=⟨_,rfl⟩
 clear h
 go_enter Tryz.func115,Tryz.ntmps115
 go_wp2_with fail
 refine HAL.out.mono ?_
 rintro e w0 ⟨rfl,rfl⟩
 go_wp2_with (at_range;refine wp_range_D _ rfl _ rfl m n (fOf G D) rfl hM ?_;intro w1 cnt0 hr0 hg0 hs0)
 go_frame
 try rw [hN] at hr0
 try rw [hN]
 have HB0:Hid (Below w0.heap.size w0 w1):=by
  have:=Fr.of_grown (P:=fun _=>False) hg0 fun k hk=>by cases hk
  exact this.below (Nat.le_refl _) fun k hk=>hk.elim
 have HR0:=hid (pr_start HH.out f hr0 HB0.out)
 clear hr0 hg0 hs0 HAL hM HB0
 go_loopg [5] cnt0 (fun gg vn wr=>∃(seen:List Ky) (cnt:Nat),vn=.int .i64 ((seen.map fun k=>pruneN (ofD D k) f).sum:Nat)∧cnt≤gg∧Hid (PrIn n0 w0 g m n G D f N seen cnt wr))
 case atStart=>exact ⟨[],cnt0,rfl,Nat.le_refl _,HR0.out⟩
 case round =>
  clear HR0
  obtain ⟨seen,cnt,rfl,hgk,HR⟩:=hrel
  have hr:=HR.out.range
  have hnd:=hr.nodup
  go_wp2_with (at_next;refine wp_next_D _ rfl _ rfl m N n (fOf G D) seen cnt rfl hr ?_ ?_)
  ·intro hall
   have HE:=hid (HEND.out seen hnd.1 hnd.2.1 fun k h1 h2=>hall k.1 k.2 h1 h2)
   have HT:=hid (pr_end HH.out HR.out fun k h1 h2=>hall k.1 k.2 h1 h2)
   clear hall hr hnd
   go_wp2_with fail
   go_ret
   rw [HE.out]
   exact ⟨rfl,HT.out⟩
  ·intro ka kb b w2 cnt2 hkf hks hfb hr2 hlt hg2 hs2 hen
   obtain ⟨k,hkk⟩:∃k:Ky,(ka,kb)=k:=⟨_,rfl⟩
   rw [hkk] at hkf hks hfb hr2
   have HL:=hid (pr_chain HH.out.ok HR.out (by omega) hkf hks hfb hr2 hg2)
   have hb3:=HSUM.out (seen++[k]) hr2.nodup.1 hr2.nodup.2.1
   rw [count_snoc] at hb3
   have HE3:=hid (count_snoc (fun k=>pruneN (ofD D k) f) seen k)
   obtain ⟨sm,hsm⟩:∃sm,(seen.map fun k=>pruneN (ofD D k) f).sum=sm:=⟨_,rfl⟩
   obtain ⟨ln,hln⟩:∃ln,pruneN (ofD D k) f=ln:=⟨_,rfl⟩
   rw [hsm,hln] at hb3 HE3
   rw [hsm]
   rw [hln] at HL
   have e1:IntKind.i64.wrap ((sm:Int)+(ln:Int))=((sm+ln:Nat):Int):=by rw [IntKind.wrap_i64];omega
   subst hkk
   simp only [valK,mkP,Option.map_some] at hen HL ⊢
   clear hr hr2 hnd hg2 hfb hsm hln hkf hks
   go_wp2_with fail
   refine HL.out.mono ?_
   rintro e w3 ⟨rfl,hp3⟩
   have HP3:=hid hp3
   clear hp3
   go_wp2_with fail
   go_roundg cnt2
   case measure=>omega
   exact ⟨seen++[(ka,kb)],cnt2,by rw [HE3.out];go_num,Nat.le_refl _,HP3.out⟩
end
section
open Go.RowKit
theorem Tryz.infoKz:(Tryz.prog.info? 39).map (fun i=>(i.zero,i.size,i.bytes))=some (some (.agg #[.string ⟨#[]⟩,.string ⟨#[]⟩]),2,32):=by kernel_rfl
theorem txt_ne {a b:ByteArray} (h:a≠b):(a.toList==b.toList)=false:=by
 have:=Z.eqK_iff (a,a) (b,a)
 unfold Z.eqK at this
 rw [decide_eq_false (by intro e;injection e with e _;exact h e)] at this
 simpa using this
def ofT (typ:ByteArray) (l:List Ky):List Ky:=l.filter fun k=>decide (k.1=typ)
theorem keys_done {G:Ky→Cm} {D:List RowD} (h:OkD D) (hf:∀k,ofD D k≠[]→FitK k) {seen:List Ky} (h1:∀k∈seen,FitK k∧(fOf G D k).isSome=true) (h2:∀k,FitK k→(fOf G D k).isSome=true→k∈seen) (typ:ByteArray):sortK (ofT typ seen)=keysD D typ:=by
 refine rising_uniqR totK (sortK_spec _).1 (h.rise.sublist (List.filter_sublist)) fun z=>?_
 rw [(sortK_spec _).2]
 unfold ofT keysD
 rw [List.mem_filter,List.mem_filter]
 refine and_congr ⟨fun hz=>(there_iff h z).2 (fOf_iff.1 (h1 z hz).2),fun hz=>?_⟩ Iff.rfl
 have:=(there_iff h z).1 hz
 exact h2 z (hf z this) (fOf_iff.2 this)
theorem ofT_snoc (typ:ByteArray) (l:List Ky) (k:Ky):ofT typ (l++[k])=ofT typ l++(if k.1=typ then [k] else []):=by
 unfold ofT
 rw [List.filter_append]
 congr 1
 by_cases e:k.1=typ
 ·rw [if_pos e];simp [e]
 ·rw [if_neg e];simp [e]
theorem own_iter {α:Type} {K:Kind α} {N r:Nat} {w w2:World} {v:Value} {d:List α} {x:Option Nat} {s:Nat} {a:Array Nat} {c:Nat} (h:K.Own N w v d) (hi:w.heap[r]? = some (.mapIter x s a c)) (f:Fr (fun b=>b=r) w w2):K.Own N w2 v d:=by
 refine f.row h fun k hk e=>?_
 obtain ⟨cs,hc⟩:=own_type h hk
 rw [e,hi] at hc
 cases hc
structure KyIn (W:World) (m n:Nat) (f:Ky→Option Nat) (N:Nat) (typ:ByteArray) (seen:List Ky) (cnt:Nat) (v:Value) (wr:World):Prop where
 rng:RangeD wr m N n f seen cnt
 bel:Below N W wr
 own:KK.Own N wr v (ofT typ seen)
theorem KyIn.next {W:World} {m n:Nat} {f:Ky→Option Nat} {N:Nat} {typ:ByteArray} {seen:List Ky} {cnt cnt2:Nat} {v:Value} {wr w2:World} (h:KyIn W m n f N typ seen cnt v wr) (_hN:W.heap.size=N) {k:Ky} (hr2:RangeD w2 m N n f (seen++[k]) cnt2) (hg2:wr.grownBy w2 (some N)) (u v':Value) (t:TypeId) :
  RangeD (w2.alloc (.cells #[u,v'] t)) m N n f (seen++[k]) cnt2∧Below N W (w2.alloc (.cells #[u,v'] t))∧KK.Own N (w2.alloc (.cells #[u,v'] t)) v (ofT typ seen):=by
 obtain ⟨si,sn,sc,hit⟩:=h.rng.iter
 have f2:Fr (fun x=>x=N) wr w2:=Fr.of_grown hg2 fun x hx=>by injection hx with hx;exact hx.symm
 have ha:Below w2.heap.size w2 (w2.alloc (.cells #[u,v'] t)):=(Below.refl _ _).alloc (Nat.le_refl _) _
 refine ⟨hr2.on (ha.block _ hr2.map.lt) (ha.block _ hr2.lt),?_,Kind.own_on (own_iter h.own hit f2) ha⟩
 have hb2:Below N W w2:=h.bel.trans (f2.below (by have:=h.rng.lt;omega) fun x hx=>by omega)
 exact bel_then hb2 (by have:=hr2.lt;omega) ha
theorem KyIn.grow {W:World} {m n:Nat} {f:Ky→Option Nat} {N:Nat} {typ:ByteArray} {seen:List Ky} {cnt:Nat} {v v':Value} {wr w4:World} {k:Ky} {l:List Ky} (hr:RangeD wr m N n f (seen++[k]) cnt) (hb:Below N W wr) (ho:KK.Own N wr v l) (hg:wr.grownBy w4 v.ownBlock) (ho4:KK.Own N w4 v' (ofT typ (seen++[k]))):KyIn W m n f N typ (seen++[k]) cnt v' w4:=by
 obtain ⟨si,sn,sc,hit⟩:=hr.iter
 obtain ⟨es,cl,hm⟩:=hr.map.obj
 have hne:∀{b:Nat},v.ownBlock=some b→N≤b∧b≠N∧b≠m:=fun {b} hbk=>by
  obtain ⟨cs,hc⟩:=own_type ho hbk
  refine ⟨(World.ownsRow.lt ho b hbk).1,fun e=>?_,fun e=>?_⟩
  ·rw [e,hit] at hc;cases hc
  ·rw [e,hm] at hc;cases hc
 refine ⟨hr.on (hg.block m hr.map.lt fun e=>(hne e.symm).2.2 rfl) (hg.block N hr.lt fun e=>(hne e.symm).2.1 rfl),?_,ho4⟩
 exact hb.trans ((Fr.of_grown (P:=fun b=>v.ownBlock=some b) hg fun b hb=>hb).below (by have:=hr.lt;omega) fun b hb=>(hne hb).1)
set_option maxHeartbeats 4000000 in
set_option maxRecDepth 100000 in
theorem dkeys_any {n0:Nat} {W:World} {g m n:Nat} {G:Ky→Cm} {D:List RowD} (h:DirM n0 W g m n G D) (hn:n≤2400000000000) (typ:ByteArray) :
  Calls Tryz.prog 168 #[.pointer (some ⟨g,0,none⟩),.string typ] W fun e w'=>∃u,e=.returned u∧KK.Own W.heap.size w' u (keysD D typ)∧Below W.heap.size W w':=by
 obtain ⟨i0,hi0,hz0,hz1,hz2⟩:=info_parts Tryz.infoKz
 have HI:=hid hi0
 have HAL:=hid (all_is g m W h.cell)
 have hM:=h.map
 have HH:=hid h
 have HEND:Hid (∀seen:List Ky,(∀k∈seen,FitK k∧(fOf G D k).isSome=true)→(∀k,FitK k→(fOf G D k).isSome=true→k∈seen)→sortK (ofT typ seen)=keysD D typ):=fun seen h1 h2 =>
  keys_done HH.out.ok (fun k hk=>key_fit (HH.out.key k hk)) h1 h2 typ
 obtain ⟨N,hN⟩:∃N,W.heap.size=N:=⟨_,rfl⟩
 clear h hi0
 go_enter Tryz.func168,Tryz.ntmps168
 go_wp2_with fail
 refine HAL.out.mono ?_
 rintro e w0 ⟨rfl,rfl⟩
 go_wp2_with (at_range;refine wp_range_D _ rfl _ rfl m n (fOf G D) rfl hM ?_;intro w1 cnt0 hr0 hg0 hs0)
 go_frame
 try rw [hN] at hr0
 try rw [hN]
 have HR0:Hid (KyIn w0 m n (fOf G D) N typ [] cnt0 (.slice none 0 0) w1):=by
  have:=Fr.of_grown (P:=fun _=>False) hg0 fun k hk=>by cases hk
  exact ⟨hr0,this.below (by omega) fun k hk=>hk.elim,KK.own_nil _ _⟩
 clear hr0 hg0 hs0 HAL hM
 go_loopg [5] cnt0 (fun gg vs wr=>∃(seen:List Ky) (cnt:Nat),cnt≤gg∧Hid (KyIn w0 m n (fOf G D) N typ seen cnt vs wr))
 case atStart=>exact ⟨[],cnt0,Nat.le_refl _,HR0.out⟩
 case round =>
  clear HR0
  obtain ⟨seen,cnt,hgk,HR⟩:=hrel
  have hr:=HR.out.rng
  have hnd:=hr.nodup
  have hlen:(ofT typ seen).length≤2400000000000:=by
   have h1:(ofT typ seen).length≤seen.length:=List.length_filter_le _ _
   have h2:=hnd.2.2
   omega
  go_wp2_with (at_next;refine wp_next_D _ rfl _ rfl m N n (fOf G D) seen cnt rfl hr ?_ ?_)
  ·intro hall
   have HE:=hid (HEND.out seen hnd.2.1 fun k h1 h2=>hall k.1 k.2 h1 h2)
   have HNS:=hid (nsort_own N _ (ofT typ seen) wr HR.out.own (by omega))
   have HB:=hid HR.out.bel
   have hNw:N≤wr.heap.size:=by have:=hr.lt;omega
   rw [HE.out] at HNS
   clear hall hr hnd
   go_wp2_with fail
   refine HNS.out.mono ?_
   rintro e w2 ⟨u,rfl,ho2,hb2⟩
   have HO2:=hid ho2
   have HB2:=hid (bel_then HB.out hNw hb2)
   obtain ⟨q,c,rfl⟩:=Kind.own_shape ho2
   clear ho2 hb2
   go_wp2_with fail
   go_ret
   rw [hN]
   exact ⟨_,rfl,Kind.own_weak HO2.out hNw,HB2.out⟩
  ·intro ka kb b w2 cnt2 hkf hks hfb hr2 hlt hg2 hs2 hen
   obtain ⟨a1,a2,a3⟩:=HR.out.next hN hr2 hg2 (.string ka) (.string kb) 39
   have HA1:=hid a1
   have HA2:=hid a2
   have HA3:=hid a3
   have HSN:=hid (ofT_snoc typ seen (ka,kb))
   have hs0:w0.heap.size≤w2.heap.size:=by have:=hr2.lt;omega
   simp only [valK,mkP,Option.map_some] at hen ⊢
   obtain ⟨p,c,rfl⟩:=Kind.own_shape HR.out.own
   clear hr hr2 hnd hg2 hfb hkf hks a1 a2 a3 hs2
   by_cases ht:ka=typ
   ·subst ht
    rw [if_pos rfl] at HSN
    go_wp2_with (first
     | (at_builtin;refine wpList_append_own _ rfl _ _ 50 rfl N 39 i0 (.agg #[.string ⟨#[]⟩,.string ⟨#[]⟩]) 2 32 Tryz.underlying50 HI.out hz0 hz1 hz2 rfl (by decide) _ _ _ rfl (World.ownsRow.alloc HA3.out _) _ 1 1 [.string ka,.string kb] rfl rfl (fun j u hj=>KK.newsN (w2.alloc (.cells #[.string ka,.string kb] 39)) (ka,kb) _ (by simp) j u hj) (by intro u hu;simp at hu;rcases hu with rfl|rfl<;>rfl) (by unfold maxLen;omega) (by omega) (by simp;omega) ?_;intro v4 w4 hown4 hg4 hnil4;have HO4:=hid hown4;have HG4:=hid hg4;clear hown4 hg4 hnil4))
    go_roundg cnt2
    case measure=>omega
    refine ⟨seen++[(ka,kb)],cnt2,Nat.le_refl _,?_⟩
    have hb5:Below (w2.alloc (.cells #[.string ka,.string kb] 39)).heap.size (w2.alloc (.cells #[.string ka,.string kb] 39)) ((w2.alloc (.cells #[.string ka,.string kb] 39)).alloc (.cells #[.string ka,.string kb] 39)):=(Below.refl _ _).alloc (Nat.le_refl _) _
    refine KyIn.grow (HA1.out.on (hb5.block _ HA1.out.map.lt) (hb5.block _ HA1.out.lt)) (bel_then HA2.out (by have:=HA1.out.lt;omega) hb5) (Kind.own_on HA3.out hb5) HG4.out ?_
    rw [HSN.out]
    exact Kind.own_snoc HO4.out rfl rfl
   ·have hbf:=txt_ne ht
    rw [if_neg ht,List.append_nil] at HSN
    go_wp2_with fail
    go_roundg cnt2
    case measure=>omega
    exact ⟨seen++[(ka,kb)],cnt2,Nat.le_refl _,HA1.out,HA2.out,by rw [HSN.out];exact HA3.out⟩
end
section
open Go.RowKit
attribute [local go_sem] Oper.semAt_some
abbrev Kx:=Ky × Vx
def encKx (x:Kx):Array Value:=#[.agg #[.string x.1.1,.string x.1.2],.agg (encVx x.2).toArray]
def fndX (x:Kx):Fnd:=(x.1,x.2.ver)
def liveL (D:List RowD) (t:Int) (keys:List Ky):List Fnd:=keys.filterMap fun k=>liveAt t (k,ofD D k)
theorem liveL_snoc (D:List RowD) (t:Int) (ks:List Ky) (k:Ky):liveL D t (ks++[k])=liveL D t ks++(match liveAt t (k,ofD D k) with|some x=>[x]|none=>[]):=by
 unfold liveL
 rw [List.filterMap_append]
 congr 1
 cases h:liveAt t (k,ofD D k)<;>simp [h]
theorem liveAt_yes {D:List RowD} {t:Int} {k:Ky} {x:Vx} (hx:x.ver=(atV (ofD D k) t).getD zeroV) (hl:x.live=true):liveAt t (k,ofD D k)=some (k,x.ver)∧atV (ofD D k) t=some x.ver:=by
 cases h:atV (ofD D k) t with
 | none =>
  rw [h] at hx
  have:x.ver.live=false:=by rw [hx];rfl
  have e:x.ver.live=x.live:=rfl
  rw [e,hl] at this
  cases this
 | some v =>
  rw [h] at hx
  have hv:x.ver=v:=hx
  refine ⟨?_,by rw [hv]⟩
  unfold liveAt
  rw [show atV (k,ofD D k).2 t=some v from h]
  have:v.live=true:=by rw [←hv];exact hl
  simp [this,hv]
theorem liveAt_no {D:List RowD} {t:Int} {k:Ky} {x:Vx} (hx:x.ver=(atV (ofD D k) t).getD zeroV) (hl:x.live=false):liveAt t (k,ofD D k)=none:=by
 unfold liveAt
 cases h:atV (k,ofD D k).2 t with
 | none=>rfl
 | some v =>
  have h':atV (ofD D k) t=some v:=h
  rw [h'] at hx
  have hv:x.ver=v:=hx
  have:v.live=false:=by rw [←hv];exact hl
  simp [this]
theorem liveL_len (D:List RowD) (t:Int) (ks:List Ky):(liveL D t ks).length≤ks.length:=List.length_filterMap_le _ _
theorem liveL_prefix (D:List RowD) (t:Int) (ks:List Ky) (i:Nat):liveL D t (ks.take i) <+: liveL D t ks:=by
 refine ⟨liveL D t (ks.drop i),?_⟩
 unfold liveL
 rw [←List.filterMap_append,List.take_append_drop]
theorem grown_of {w w':World} (h:Below w.heap.size w w'):w.grownBy w' none:=⟨h.os,h.tape,h.output,h.size,fun i hi _=>h.block i hi⟩
def GdX (B N:Nat) (pre:List Kx) (x:Kx) (W:World):Prop:=OwnJ B W x.2.sl x.2.o∧mayB (x.2.o.map Fx.fld)=true∧pre.length<N∧B≤W.heap.size
def KpX (Bf B:Nat) (W W':World):Prop:=Fr (fun b=>b=Bf∨B≤b) W W'
theorem kpX_trans {Bf B:Nat} {X Y Z:World} (h:KpX Bf B X Y) (k:KpX Bf B Y Z):KpX Bf B X Z:=Fr.then h k fun _ hb=>Or.inl hb
theorem kpX_put {Bf B:Nat} (W:World) (l:Nat) (o:Obj) (h:B≤l):KpX Bf B W (W.putObj l o) :=
 ⟨rfl,rfl,rfl,by simp,fun k _ hn=>World.putObj_heap_other (fun e=>hn (Or.inr (by rw [e];exact h)))⟩
theorem dlive_any (W:World) (g:Nat) (p:Option Addr) (len cap:Nat) (t:Int) :
  Calls Tryz.prog 167 #[.pointer (some ⟨g,0,none⟩),.slice p len cap,.int .u64 t] W fun e w'=>e=.returned (.func (.func 252) #[] #[.pointer (some ⟨W.heap.size+1,0,none⟩),.pointer (some ⟨W.heap.size,0,none⟩),.pointer (some ⟨W.heap.size+2,0,none⟩)]) ∧
   w'=((W.alloc (.cells #[.pointer (some ⟨g,0,none⟩)] 133)).alloc (.cells #[.slice p len cap] 50)).alloc (.cells #[.int .u64 t] 22):=by
 have hmf:∀(fn:Fn) (first cap:Array Value) (w:World),(Instr.makeFunc fn first cap).run Tryz.prog w=.ok (.func fn first cap) w:=fun _ _ _ _=>rfl
 go_enter Tryz.func167,Tryz.ntmps167
 go_wp2_with fail
 go_ret
 exact ⟨rfl,rfl⟩
structure LvAt (n0:Nat) (w:World) (g m n:Nat) (G:Ky→Cm) (D:List RowD) (keys:List Ky) (t:Int) (p:Option Addr) (cap b0 b1 b2 Bf:Nat):Prop where
 dir:DirM n0 w g m n G D
 h0:w.heap[b0]? = some (.cells #[.pointer (some ⟨g,0,none⟩)] 133 (0,0))
 h1:w.heap[b1]? = some (.cells #[.slice p keys.length cap] 50 (0,0))
 h2:w.heap[b2]? = some (.cells #[.int .u64 t] 22 (0,0))
 row:keys=[]∨∃b off,p=some ⟨b,off,none⟩∧KK.At w b off keys∧b≠Bf
 fit:∀k∈keys,FitK k
 few:keys.length≤2400000000000
 n0f:b0≠Bf
 n1f:b1≠Bf
 n2f:b2≠Bf
 off:¬ BlkD g m G D Bf
theorem LvAt.fr {n0:Nat} {w W:World} {g m n:Nat} {G:Ky→Cm} {D:List RowD} {keys:List Ky} {t:Int} {p:Option Addr} {cap b0 b1 b2 Bf:Nat} (h:LvAt n0 w g m n G D keys t p cap b0 b1 b2 Bf) (f:KpX Bf w.heap.size w W):LvAt n0 W g m n G D keys t p cap b0 b1 b2 Bf:=by
 have hb:∀{b:Nat},b<w.heap.size→b≠Bf→W.heap[b]? = w.heap[b]?:=fun {b} hl hn=>f.block b hl fun e=>by
  rcases e with e|e
  ·exact hn e
  ·omega
 have hlt:∀{b:Nat} {o:Obj},w.heap[b]? = some o→b<w.heap.size:=fun h=>(Array.getElem?_eq_some_iff.1 h).1
 refine ⟨h.dir.fr f fun b hb e=>?_,(hb (hlt h.h0) h.n0f).trans h.h0,(hb (hlt h.h1) h.n1f).trans h.h1,(hb (hlt h.h2) h.n2f).trans h.h2,?_,h.fit,h.few,h.n0f,h.n1f,h.n2f,h.off⟩
 ·rcases e with e|e
  ·rw [e] at hb;exact h.off hb
  ·have:=(h.dir.blk b hb).2;omega
 ·rcases h.row with h1|⟨b,off,h1,h2,h3⟩
  ·exact Or.inl h1
  ·refine Or.inr ⟨b,off,h1,fun i hi j u hu=>?_,h3⟩
   have:=h2 i hi j u hu
   exact (World.cell?_of_block (hb (cell_block this) h3)).trans this
set_option maxHeartbeats 4000000 in
set_option maxRecDepth 100000 in
theorem live1_in (nn:Nat) (hnn:1≤nn) {n0:Nat} {w:World} {g m n:Nat} {G:Ky→Cm} {D:List RowD} {keys:List Ky} {t:Int} {p:Option Addr} {cap b0 b1 b2 Bf:Nat} (h:LvAt n0 w g m n G D keys t p cap b0 b1 b2 Bf) (l:Nat)
  (J Jx:List Kx→World→Prop) (W:World) (hW:Below w.heap.size w W) (hJ:AbidesFrom W.heap.size J)
  (hY:∀pre x W1,J pre W1→GdX w.heap.size keys.length pre x W1→YieldAt Fence.wide (nn-1) Tryz.prog l (encKx x) W1 fun e W' =>
   (e=.returned (.bool true)∧J (pre++[x]) W'∧KpX Bf w.heap.size W1 W')∨(e=.returned (.bool false)∧Jx (pre++[x]) W'))
  (h0:J [] W) :
  CallsIn Fence.wide nn Tryz.prog 252 #[.func (.yield l) #[] #[],.pointer (some ⟨b1,0,none⟩),.pointer (some ⟨b0,0,none⟩),.pointer (some ⟨b2,0,none⟩)] W fun e W'=>(∃v,e=.returned v) ∧
   ((∃xs:List Kx,xs.map fndX=liveL D t keys∧J xs W')∨(∃pre:List Kx,pre.map fndX <+: liveL D t keys∧Jx pre W')):=by
 have HL:=hid h
 have hf0:KpX Bf w.heap.size w W:=Fr.of_below hW
 have hl0:=h.fr hf0
 have c1:W.cell? ⟨b1,0,none⟩=some (.slice p keys.length cap):=by rw [Lib.cell_of_heap hl0.h1];rfl
 have hlen:=h.few
 have ST0:Hid (KpX Bf w.heap.size w W∧J [] W):=⟨hf0,h0⟩
 clear hl0 hf0 h0 h
 refine callsIn_of_wp Tryz.func252 rfl trivial ?_ rfl
 simp only [Tryz.ntmps252,List.size_toArray,List.length_cons,List.length_nil,Nat.reduceAdd,Nat.reduceSub,Array.replicate_succ,Array.replicate_zero,List.push_toArray,List.append_toArray,List.nil_append,List.cons_append]
 gi_wp2
 clear c1
 gi_loopw [11] (fun vi wr=>∃(i:Nat) (pre:List Kx),vi=.int .i64 i∧i≤keys.length∧KpX Bf w.heap.size w wr∧pre.map fndX=liveL D t (keys.take i)∧J pre wr∧W.heap.size≤wr.heap.size) (fun vi _=>keys.length-(intOf vi).toNat)
 case atStart=>exact ⟨0,[],rfl,Nat.zero_le _,ST0.out.1,rfl,ST0.out.2,Nat.le_refl _⟩
 case round =>
  obtain ⟨i,pre,rfl,hi,hkp,hpre,hJs,hsz⟩:=hrel
  by_cases hlt:i<keys.length
  ·have hltz:(i:Int)<(keys.length:Int):=by omega
   have hiz:(0:Int)≤i:=by omega
   have hlv:=HL.out.fr hkp
   obtain ⟨kb,ko,rfl,hrow,_⟩:∃b off,p=some ⟨b,off,none⟩∧KK.At wr b off keys∧b≠Bf:=by
    rcases hlv.row with e|e
    ·rw [e] at hlt;simp at hlt
    ·exact e
   obtain ⟨k0,k1⟩:=kk_at hrow i hlt
   have hfk:=hlv.fit _ (List.getElem_mem hlt)
   have htk:keys.take (i+1)=keys.take i++[keys[i]]:=List.take_succ_eq_append_getElem hlt
   obtain ⟨k,hk⟩:∃k,keys[i]=k:=⟨_,rfl⟩
   rw [hk] at k0 k1 hfk htk
   obtain ⟨W2,hW2⟩:∃W2,wr.alloc (.cells #[.string k.1,.string k.2] 39)=W2:=⟨_,rfl⟩
   have hb2:Below wr.heap.size wr W2:=by rw [←hW2];exact (Below.refl _ _).alloc (Nat.le_refl _) _
   have hs2:W2.heap.size=wr.heap.size+1:=by rw [←hW2];simp
   have hk2:W2.heap[wr.heap.size]? = some (.cells #[.string k.1,.string k.2] 39 (0,0)):=by rw [←hW2];exact heap_alloc_new wr _
   have hkp2:KpX Bf w.heap.size w W2:=kpX_trans hkp (Fr.of_below hb2)
   have hlv2:=HL.out.fr hkp2
   have HAT:=hid (dat_any hlv2.dir k hfk t)
   have d0:W2.cell? ⟨b0,0,none⟩=some (.pointer (some ⟨g,0,none⟩)):=by rw [Lib.cell_of_heap hlv2.h0];rfl
   have d2:W2.cell? ⟨b2,0,none⟩=some (.int .u64 t):=by rw [Lib.cell_of_heap hlv2.h2];rfl
   have e0:W2.cell? ⟨wr.heap.size,0,none⟩=some (.string k.1):=cz hk2
   have e1:W2.cell? ⟨wr.heap.size,1,none⟩=some (.string k.2):=cz hk2
   have HSN:=hid (liveL_snoc D t (keys.take i) k)
   rw [←htk] at HSN
   have HPRE:=hid hpre
   have hplen:pre.length≤i:=by
    have h1:=congrArg List.length hpre
    rw [List.length_map] at h1
    have h2:=liveL_len D t (keys.take i)
    rw [List.length_take] at h2
    omega
   have HMAY:Hid (∀v,atV (ofD D k) t=some v→mayB v.val=true):=fun v hv=>by
    have hm:=at_mem hv
    have hne:ofD D k≠[]:=by intro e;rw [e] at hm;simp at hm
    obtain ⟨h1,h2⟩:=hlv2.dir.prg k hne
    rw [←h2] at hm
    obtain ⟨x,hx,rfl⟩:=List.mem_map.1 hm
    exact (h1.each x hx).2
   have HJS:=hid hJs
   have HKP2:=hid hkp2
   have HB2:=hid hb2
   have hsw:w.heap.size≤wr.heap.size:=hkp.size
   obtain ⟨K0,hK0⟩:∃K0,wr.heap.size=K0:=⟨_,rfl⟩
   obtain ⟨ka,kbb⟩:=k
   simp only at *
   clear hlv hlv2 hrow hfk htk hk hb2 hk2 hkp hkp2 hpre hJs
   rw [hK0] at e0 e1 hs2 hsw
   gi_wp2
   refine ⟨trivial,?_⟩
   gi_at_call 110
   refine (callsIn_wide.2 HAT.out).mono ?_
   rintro e w3 ⟨x,rfl,hx,hJ3,hb3⟩
   clear HAT
   have hs3:=hb3.size
   obtain ⟨W4,hW4⟩:∃W4,w3.alloc (.cells (encVx x).toArray 46)=W4:=⟨_,rfl⟩
   have hb4:Below w3.heap.size w3 W4:=by rw [←hW4];exact (Below.refl _ _).alloc (Nat.le_refl _) _
   have hs4:=hb4.size
   have hv4:VerAt W4 w3.heap.size x:=by rw [←hW4];exact heap_alloc_new w3 _
   have hb24:Below W2.heap.size W2 W4:=bel_then hb3 hs3 hb4
   have hb14:Below wr.heap.size wr W4:=bel_then HB2.out (by omega) hb24
   have e04:W4.cell? ⟨K0,0,none⟩=some (.string ka):=(hb24.cell (p:=⟨K0,0,none⟩) (show K0<W2.heap.size by omega)).trans e0
   have e14:W4.cell? ⟨K0,1,none⟩=some (.string kbb):=(hb24.cell (p:=⟨K0,1,none⟩) (show K0<W2.heap.size by omega)).trans e1
   have hJ4:J pre W4:=hJ pre wr W4 none HJS.out (grown_of hb14) fun r e=>by cases e
   have hO4:OwnJ w.heap.size W4 x.sl x.o:=own_weakJ (hJ3.on hb4) (by omega)
   have hkp4:KpX Bf w.heap.size w W4:=kpX_trans HKP2.out (Fr.of_below hb24)
   obtain ⟨v0,v1,v2,v3,v4⟩:=hv4.cells
   obtain ⟨V0,hV0⟩:∃V0,w3.heap.size=V0:=⟨_,rfl⟩
   rw [hV0] at v0 v1 v2 v3 v4
   have HX:=hid hx
   have hmayx:x.live=true→mayB (x.o.map Fx.fld)=true:=fun hl=>by
    obtain ⟨_,h2⟩:=liveAt_yes (k:=(ka,kbb)) hx hl
    exact HMAY.out _ h2
   have HMX:=hid hmayx
   have HO4:=hid hO4
   have HKP4:=hid hkp4
   have HJ4:=hid hJ4
   have hs24:W.heap.size≤W4.heap.size:=by omega
   have hsw4:w.heap.size≤W4.heap.size:=by omega
   obtain ⟨o,ho⟩:∃o,(atV (ofD D (ka,kbb)) t).isSome=o:=⟨_,rfl⟩
   rw [ho]
   obtain ⟨xn,xs,xt,xl,xp,xc,xo⟩:=x
   simp only [encVx,Vx.sl] at *
   clear hx hJ3 hb3 hb4 hv4 hb24 hb14 hJ4 hO4 hkp4 hmayx e0 e1 d0 d2 ho k0 k1
   cases xl with
   | true =>
    have hG4:GdX w.heap.size keys.length pre ((ka,kbb),⟨xn,xs,xt,true,xp,xc,xo⟩) W4:=⟨HO4.out,HMX.out rfl,by omega,hsw4⟩
    obtain ⟨fn,tmps,assign,body,hy,hR⟩:=hY pre ((ka,kbb),⟨xn,xs,xt,true,xp,xc,xo⟩) W4 HJ4.out hG4
    have HLY:=hid (liveAt_yes HX.out rfl).1
    rw [HLY.out] at HSN
    have HNX:Hid ((pre++[((ka,kbb),(⟨xn,xs,xt,true,xp,xc,xo⟩:Vx))]).map fndX=liveL D t (keys.take (i+1))):=by
     show _=_
     rw [HSN.out,List.map_append,HPRE.out]
     rfl
    simp only [encKx,encVx,Vx.sl] at hy
    clear hG4
    gi_wp2
    refine hR.mono ?_
    rintro e W5 (⟨rfl,hJ5,hk5⟩|⟨rfl,hJx5⟩)
    ·have HK5:=hid (kpX_trans HKP4.out hk5)
     have HJ5:=hid hJ5
     have hs5:W.heap.size≤W5.heap.size:=Nat.le_trans hs24 hk5.size
     clear hk5 hJ5
     gi_wp2
     go_roundw
     case rel=>exact ⟨i+1,_,by go_num,by omega,HK5.out,HNX.out,HJ5.out,hs5⟩
     case measure=>simp [intOf];omega
    ·gi_wp2
     refine bodyPost_ret (results_none rfl _ _ _) rfl ?_
     exact ⟨⟨_,rfl⟩,.inr ⟨_,by rw [HNX.out];exact liveL_prefix D t keys (i+1),hJx5⟩⟩
   | false =>
    have HLN:=hid (liveAt_no HX.out rfl)
    simp only [HLN.out,List.append_nil] at HSN
    gi_wp2
    refine ⟨fun _ h=>(by cases h),?_⟩
    gi_wp2
    go_roundw
    case rel=>exact ⟨i+1,pre,by go_num,by omega,HKP4.out,by rw [HSN.out];exact HPRE.out,HJ4.out,hs24⟩
    case measure=>simp [intOf];omega
  ·have hltz:¬ (i:Int)<(keys.length:Int):=by omega
   have hti:keys.take i=keys:=List.take_of_length_le (by omega)
   rw [hti] at hpre
   gi_wp2
   go_end0
   exact ⟨⟨_,rfl⟩,.inl ⟨pre,hpre,hJs⟩⟩
theorem live_seq (nn:Nat) (hnn:1≤nn) {n0:Nat} {w:World} {g m n:Nat} {G:Ky→Cm} {D:List RowD} {keys:List Ky} {t:Int} {p:Option Addr} {cap b0 b1 b2 Bf:Nat} (h:LvAt n0 w g m n G D keys t p cap b0 b1 b2 Bf) :
  SeqM Fence.wide nn Tryz.prog 252 #[.pointer (some ⟨b1,0,none⟩),.pointer (some ⟨b0,0,none⟩),.pointer (some ⟨b2,0,none⟩)] encKx (GdX w.heap.size keys.length) (KpX Bf w.heap.size) (fun xs=>xs.map fndX=liveL D t keys) (fun pre=>pre.map fndX <+: liveL D t keys) w :=
 fun l J Jx W hW hJ hY h0=>live1_in nn hnn h l J Jx W hW hJ hY h0
end
section
open Go.RowKit
def FdPost (w:World) (l:List Fnd) (e:Ending) (w':World):Prop :=
 ∃u fs,e=.returned u∧KFd.Own w.heap.size w' u fs∧(∀f∈fs,OwnJ w.heap.size w' f.v.sl f.v.o∧mayB (f.v.o.map Fx.fld)=true)∧fs.map Fd.fnd=l∧Below w.heap.size w w'
structure FdSt (Bf:Nat) (w:World) (sel:Fnd→Bool) (pre:List Kx) (v:Value) (fs:List Fd) (W:World):Prop where
 box:W.heap[Bf]? = some (.cells #[v] 47 (0,0))
 own:KFd.Own w.heap.size W v fs
 val:∀f∈fs,OwnJ w.heap.size W f.v.sl f.v.o∧mayB (f.v.o.map Fx.fld)=true
 eq:fs.map Fd.fnd=(pre.map fndX).filter sel
 len:fs.length≤pre.length
 fr:Fr (fun b=>b=Bf) w W
 lt:Bf<w.heap.size
theorem ownJ_cells {N:Nat} {w:World} {u:Value} {o:List Fx} (h:OwnJ N w u o) {k:Nat} (hk:BlkX u o k):∃cs t,w.heap[k]? = some (.cells cs t (0,0))∧(t=131∨t=9):=by
 rcases hk with hk|⟨f,hf,hk⟩
 ·obtain ⟨cs,hc⟩:=own_type h.1.1 hk
  exact ⟨cs,_,hc,Or.inl rfl⟩
 ·obtain ⟨cs,hc⟩:=own_type (h.1.2 f hf) hk
  exact ⟨cs,_,hc,Or.inr rfl⟩
theorem fr_row {W W':World} {row:Option Nat} (hg:W.grownBy W' row):Fr (fun b=>row=some b) W W':=Fr.of_grown hg fun _ h=>h
theorem ownJ_nc {N:Nat} {W W':World} {u:Value} {o:List Fx} {row:Option Nat} (h:OwnJ N W u o) (hg:W.grownBy W' row) (hr:∀r,row=some r→∃ob:Obj,W.heap[r]? = some ob∧ob.isCells=false):OwnJ N W' u o :=
 ownJ_fr h (fr_row hg) fun k hk e=>by
  obtain ⟨cs,t,h1,_⟩:=ownJ_cells h hk
  obtain ⟨ob,h2,h3⟩:=hr k e
  rw [h1] at h2
  injection h2 with h2
  rw [←h2] at h3
  cases h3
theorem own_nc {α:Type} {K:Kind α} {N:Nat} {W W':World} {v:Value} {d:List α} {row:Option Nat} (h:K.Own N W v d) (hg:W.grownBy W' row) (hr:∀r,row=some r→∃ob:Obj,W.heap[r]? = some ob∧ob.isCells=false):K.Own N W' v d :=
 (fr_row hg).row h fun k hk e=>by
  obtain ⟨cs,h1⟩:=own_type h hk
  obtain ⟨ob,h2,h3⟩:=hr k e
  rw [h1] at h2
  injection h2 with h2
  rw [←h2] at h3
  cases h3
theorem cells_nc {W W':World} {b:Nat} {cs:Array Value} {t:TypeId} {fz:Nat × Nat} {row:Option Nat} (h:W.heap[b]? = some (.cells cs t fz)) (hg:W.grownBy W' row) (hr:∀r,row=some r→∃ob:Obj,W.heap[r]? = some ob∧ob.isCells=false):W'.heap[b]? = some (.cells cs t fz) :=
 (hg.block b (Array.getElem?_eq_some_iff.1 h).1 fun e=>by
  obtain ⟨ob,h2,h3⟩:=hr b e.symm
  rw [h] at h2
  injection h2 with h2
  rw [←h2] at h3
  cases h3).trans h
theorem FdSt.nc {Bf:Nat} {w:World} {sel:Fnd→Bool} {pre:List Kx} {v:Value} {fs:List Fd} {W W':World} {row:Option Nat} (h:FdSt Bf w sel pre v fs W) (hg:W.grownBy W' row) (hr:∀r,row=some r→w.heap.size≤r∧∃ob:Obj,W.heap[r]? = some ob∧ob.isCells=false):FdSt Bf w sel pre v fs W' :=
 ⟨cells_nc h.box hg fun r e=>(hr r e).2,own_nc h.own hg fun r e=>(hr r e).2,fun f hf=>⟨ownJ_nc (h.val f hf).1 hg fun r e=>(hr r e).2,(h.val f hf).2⟩,h.eq,h.len,Fr.then h.fr (fr_row hg) fun b hb=>Or.inr (hr b hb).1,h.lt⟩
theorem FdSt.own_from (Bf:Nat) (w:World) (sel:Fnd→Bool):OwnFrom w.heap.size (fun pre W=>∃v fs,FdSt Bf w sel pre v fs W):=by
 rintro s W W' row ⟨v,fs,h⟩ hg hr
 exact ⟨v,fs,h.nc hg hr⟩
theorem FdSt.on {Bf:Nat} {w:World} {sel:Fnd→Bool} {pre:List Kx} {v:Value} {fs:List Fd} {W W':World} (h:FdSt Bf w sel pre v fs W) (hb:Below W.heap.size W W'):FdSt Bf w sel pre v fs W' :=
 h.nc (grown_of hb) fun r e=>by cases e
theorem GdX.nc {B N:Nat} {pre:List Kx} {x:Kx} {W W':World} {row:Option Nat} (h:GdX B N pre x W) (hg:W.grownBy W' row) (hr:∀r,row=some r→∃ob:Obj,W.heap[r]? = some ob∧ob.isCells=false):GdX B N pre x W' :=
 ⟨ownJ_nc h.1 hg hr,h.2.1,h.2.2.1,Nat.le_trans h.2.2.2 hg.size⟩
theorem keeps_of {B:Nat} {P:Nat→Prop} {W W':World} (f:Fr P W W') (h:∀b,B≤b→P b→∃cs t fz,W.heap[b]? = some (.cells cs t fz)):KeepsFrom B W W' :=
 ⟨f.size,fun k o hk ho hc=>by
  by_cases hp:P k
  ·obtain ⟨cs,t,fz,hh⟩:=h k hk hp
   rw [hh] at ho
   injection ho with ho
   rw [←ho] at hc
   cases hc
  ·exact (f.block k (Array.getElem?_eq_some_iff.1 ho).1 hp).trans ho⟩
theorem fd_push {Bf:Nat} {w:World} {sel:Fnd→Bool} {pre:List Kx} {v v':Value} {fs:List Fd} {W W4 w1:World} {x:Kx} {N:Nat} (h:FdSt Bf w sel pre v fs W) (hx:GdX w.heap.size N pre x W) (hb4:Below W.heap.size W W4) (hg:W4.grownBy w1 v.ownBlock)
  (ho1:KFd.Own w.heap.size w1 v' (fs++[⟨x.1.1,x.1.2,x.2⟩])) (hs:sel (fndX x)=true) :
  KeepsFrom w.heap.size W (w1.setCell ⟨Bf,0,none⟩ v')∧KpX Bf w.heap.size W (w1.setCell ⟨Bf,0,none⟩ v')∧FdSt Bf w sel (pre++[x]) v' (fs++[⟨x.1.1,x.1.2,x.2⟩]) (w1.setCell ⟨Bf,0,none⟩ v'):=by
 have hlt:=h.lt
 have hfs:=h.fr.size
 have hown4:=Kind.own_on h.own hb4
 have hblk:∀b,v.ownBlock=some b→w.heap.size≤b∧∃cs,W.heap[b]? = some (.cells cs 110 (0,0)):=fun b hb=>⟨(World.ownsRow.lt h.own b hb).1,own_type h.own hb⟩
 have fset:Fr (fun b=>b=Bf) w1 (w1.setCell ⟨Bf,0,none⟩ v'):=Fr.of_grown (grown_set w1 Bf 0 v') fun k hk=>by injection hk with hk;exact hk.symm
 have f41:Fr (fun b=>v.ownBlock=some b) W w1:=Fr.then (Fr.of_below hb4) (fr_row hg) fun b hb=>Or.inl hb
 have f5:Fr (fun b=>b=Bf∨v.ownBlock=some b) W (w1.setCell ⟨Bf,0,none⟩ v'):=Fr.then (f41.mono fun b hb=>Or.inr hb) fset fun b hb=>Or.inl (Or.inl hb)
 have hbox1:w1.heap[Bf]? = some (.cells #[v] 47 (0,0)):=(f41.block Bf (by omega) fun e=>by have:=(hblk Bf e).1;omega).trans h.box
 have hval:∀{u:Value} {o:List Fx},OwnJ w.heap.size W u o→OwnJ w.heap.size (w1.setCell ⟨Bf,0,none⟩ v') u o:=fun {u o} hJ=>ownJ_fr hJ f5 fun k hk e=>by
  rcases e with e|e
  ·have:=(ownJ_blk hJ k hk).1;omega
  ·obtain ⟨cs,h1⟩:=(hblk k e).2
   obtain ⟨cs',t,h2,h3⟩:=ownJ_cells hJ hk
   rw [h1] at h2
   injection h2 with h2
   injection h2 with _ h2 _
   rcases h3 with h3|h3
   ·exact absurd (h2.trans h3) (by decide)
   ·exact absurd (h2.trans h3) (by decide)
 refine ⟨keeps_of f5 fun b hb e=>?_,f5.mono fun b hb=>?_,?_⟩
 ·rcases e with e|e
  ·omega
  ·obtain ⟨cs,h1⟩:=(hblk b e).2
   exact ⟨_,_,_,h1⟩
 ·rcases hb with hb|hb
  ·exact Or.inl hb
  ·exact Or.inr (hblk b hb).1
 ·refine ⟨heap_setCell_same w1 Bf 0 _ _ _ hbox1,fset.row ho1 fun k hk e=>?_,fun f hf=>?_,?_,?_,Fr.then h.fr f5 fun b hb=>?_,hlt⟩
  ·have:=(World.ownsRow.lt ho1 k hk).1;omega
  ·rcases List.mem_append.1 hf with hf|hf
   ·exact ⟨hval (h.val f hf).1,(h.val f hf).2⟩
   ·rw [List.mem_singleton] at hf
    subst hf
    exact ⟨hval hx.1,hx.2.1⟩
  ·rw [List.map_append,List.map_append,List.filter_append,h.eq]
   congr 1
   simp only [List.map_cons,List.map_nil,List.filter_cons,hs,List.filter_nil,if_true]
   rfl
  ·rw [List.length_append,List.length_append]
   have:=h.len
   simp only [List.length_singleton]
   omega
  ·rcases hb with hb|hb
   ·exact Or.inl hb
   ·exact Or.inr (hblk b hb).1
theorem fd_pass {Bf:Nat} {w:World} {sel:Fnd→Bool} {pre:List Kx} {v:Value} {fs:List Fd} {W W4:World} {x:Kx} (h:FdSt Bf w sel pre v fs W) (hb4:Below W.heap.size W W4) (hs:sel (fndX x)=false) :
  KeepsFrom w.heap.size W W4∧KpX Bf w.heap.size W W4∧FdSt Bf w sel (pre++[x]) v fs W4:=by
 have h4:=h.on hb4
 refine ⟨keeps_of (P:=fun _=>False) (Fr.of_below hb4) fun b _ e=>e.elim,Fr.of_below hb4,h4.box,h4.own,h4.val,?_,?_,h4.fr,h4.lt⟩
 ·rw [List.map_append,List.filter_append,←h.eq]
  simp [hs]
 ·rw [List.length_append]
  have:=h.len
  omega
end
section
open Go.RowKit Go.Lib
def BoxM (w:World) (g:Nat) (x:Tm):Prop:=w.heap[g]? = some (.cells #[.string x.1,.int .i64 x.2.1,.string x.2.2] 122 (0,0))
theorem BoxM.cells {w:World} {g:Nat} {x:Tm} (h:BoxM w g x):w.cell? ⟨g,0,none⟩=some (.string x.1)∧w.cell? ⟨g,1,none⟩=some (.int .i64 x.2.1)∧w.cell? ⟨g,2,none⟩=some (.string x.2.2):=by
 rw [Lib.cell_of_heap h,Lib.cell_of_heap h,Lib.cell_of_heap h]
 exact ⟨rfl,rfl,rfl⟩
theorem BoxM.lt {w:World} {g:Nat} {x:Tm} (h:BoxM w g x):g<w.heap.size:=(Array.getElem?_eq_some_iff.1 h).1
theorem BoxM.on {w w':World} {g:Nat} {x:Tm} (h:BoxM w g x) (hb:Below w.heap.size w w'):BoxM w' g x:=(hb.block g h.lt).trans h
theorem boxM_new (w:World) (x:Tm):BoxM (w.alloc (.cells #[.string x.1,.int .i64 x.2.1,.string x.2.2] 122)) w.heap.size x:=heap_alloc_new w _
theorem begins_prefix (s t:ByteArray):Lib.hasPrefix s.data.toList t.data.toList=beginsB s t:=by
 unfold beginsB
 rw [toList_eq]
 by_cases h:t.size≤s.size
 ·rw [decide_eq_true h,Bool.true_and]
  rw [Bool.eq_iff_iff,decide_eq_true_iff]
  have e:(s.extract 0 t.size).data.toList=s.data.toList.take t.size:=by simp
  constructor
  ·intro hp
   refine ba_eq ?_
   rw [e]
   have:=List.prefix_iff_eq_take.1 (List.isPrefixOf_iff_prefix.1 hp)
   simpa using this.symm
  ·intro he
   refine List.isPrefixOf_iff_prefix.2 ?_
   have:t.data.toList=s.data.toList.take t.size:=by rw [←e,he]
   rw [this]
   exact List.take_prefix _ _
 ·rw [decide_eq_false h,Bool.false_and,Bool.eq_false_iff]
  intro hp
  have:=(List.isPrefixOf_iff_prefix.1 hp).length_le
  simp at this
  exact h this
def Bt:Type:={ t:ByteArray // t.size≤maxLen }
theorem hasT_any (f:ByteArray→Bool) (k:Nat) (lb:Array Value) (ent:∀args w,(callFunc k args).run Tryz.prog w=.ok (.enter k args) w) (p:Option Addr) (cap:Nat) (ts:List ByteArray) (w:World) (h:TxtAt w p ts) (hf:FitT ts)
  (hk:∀(W:World) (t:ByteArray),Below w.heap.size w W→t.size≤maxLen→Calls Tryz.prog k (#[.string t]++lb) W fun e w'=>e=.returned (.bool (f t))∧∃q,w'=W.drewN q) :
  Calls Tryz.prog 304 #[.slice p ts.length cap,.func (.func k) #[] lb] w fun e w'=>e=.returned (.bool (ts.any f))∧∃q,w'=w.drewN q:=by
 rcases h with rfl|⟨b,off,rfl,hc⟩
 ·refine (Tryz.slices_ContainsFunc_empty (α:=ByteArray) p cap _ w).mono ?_
  rintro e w' ⟨rfl,rfl⟩
  exact ⟨rfl,0,rfl⟩
 ·have hl:=hf.1
  unfold maxLen at hl
  obtain ⟨zs,hzs⟩:∃zs:List Bt,zs.map (·.1)=ts:=⟨ts.attachWith _ hf.2,List.attachWith_map_subtype_val ..⟩
  have hzl:zs.length=ts.length:=by rw [←hzs,List.length_map]
  letI:Inhabited Bt:=⟨⟨⟨#[]⟩,Nat.zero_le _⟩⟩
  refine (Tryz.slices_ContainsFunc (fun t:Bt=>Value.string t.1) (fun t=>f t.1) k lb ent b off ts.length cap zs w (fun W x hb=>hk W x.1 hb x.2) (by omega) (by omega) ?_).mono ?_
  ·intro j hj
   rw [getElem!_pos zs j hj]
   have e:(zs[j]).1=ts[j]'(by omega):=by subst hzs;simp
   rw [e]
   exact hc j (by omega)
  ·rintro e w' ⟨rfl,hq⟩
   refine ⟨ret_bool ?_,hq⟩
   rw [List.take_of_length_le (by omega),←hzs]
   simp [List.any_map,Function.comp_def]
theorem enters_h1:∀args w,(callFunc 325 args).run Tryz.prog w=.ok (.enter 325 args) w:=enters_of Tryz.func325 (by kernel_rfl) rfl
theorem enters_h2:∀args w,(callFunc 327 args).run Tryz.prog w=.ok (.enter 327 args) w:=enters_of Tryz.func327 (by kernel_rfl) rfl
theorem enters_h3:∀args w,(callFunc 329 args).run Tryz.prog w=.ok (.enter 329 args) w:=enters_of Tryz.func329 (by kernel_rfl) rfl
theorem enters_h4:∀args w,(callFunc 330 args).run Tryz.prog w=.ok (.enter 330 args) w:=enters_of Tryz.func330 (by kernel_rfl) rfl
theorem enters_h5:∀args w,(callFunc 331 args).run Tryz.prog w=.ok (.enter 331 args) w:=enters_of Tryz.func331 (by kernel_rfl) rfl
set_option maxHeartbeats 1000000 in
theorem h1_any (g:Nat) (x:Tm) (t:ByteArray) (W:World) (hb:BoxM W g x) (hx:x.2.2.size≤maxLen) (ht:t.size≤maxLen) :
  Calls Tryz.prog 325 #[.string t,.pointer (some ⟨g,0,none⟩)] W fun e w'=>e=.returned (.bool (tokenB x.2.2 t))∧∃q,w'=W.drewN q:=by
 obtain ⟨_,_,c2⟩:=hb.cells
 have HX:=hid hx
 have HT:=hid ht
 clear hb hx ht
 go_enter Tryz.func325,Tryz.ntmps325
 go_wp2_with (go_at_call 326;refine (Token_any _ _ _ HX.out HT.out).mono ?_;rintro e w1 ⟨rfl,n,rfl⟩)
 go_ret
 exact ⟨rfl,n,rfl⟩
set_option maxHeartbeats 1000000 in
theorem h2_any (g:Nat) (x:Tm) (t:ByteArray) (W:World) (hb:BoxM W g x) :
  Calls Tryz.prog 327 #[.string t,.pointer (some ⟨g,0,none⟩)] W fun e w'=>e=.returned (.bool (beginsB t x.2.2))∧∃q,w'=W.drewN q:=by
 obtain ⟨_,_,c2⟩:=hb.cells
 have HE:=hid (begins_prefix t x.2.2)
 clear hb
 go_enter Tryz.func327,Tryz.ntmps327
 go_wp2_with (go_at_call 328;refine (Tryz.strings_HasPrefix _ _ _).mono ?_;rintro e w1 ⟨rfl,rfl⟩)
 go_ret
 exact ⟨ret_bool HE.out,0,rfl⟩
set_option maxHeartbeats 1000000 in
theorem h3_any (g:Nat) (x:Tm) (t:ByteArray) (W:World) (hb:BoxM W g x) :
  Calls Tryz.prog 329 #[.string t,.pointer (some ⟨g,0,none⟩)] W fun e w'=>e=.returned (.bool (ltB t x.2.2))∧∃q,w'=W.drewN q:=by
 obtain ⟨_,_,c2⟩:=hb.cells
 have HE:=hid (sless_of (rfl:ltB t x.2.2=_))
 clear hb
 go_enter Tryz.func329,Tryz.ntmps329
 go_wp2_with fail
 go_ret
 exact ⟨ret_bool HE.out,0,rfl⟩
set_option maxHeartbeats 1000000 in
theorem h4_any (g:Nat) (x:Tm) (t:ByteArray) (W:World) (hb:BoxM W g x) :
  Calls Tryz.prog 330 #[.string t,.pointer (some ⟨g,0,none⟩)] W fun e w'=>e=.returned (.bool (ltB x.2.2 t))∧∃q,w'=W.drewN q:=by
 obtain ⟨_,_,c2⟩:=hb.cells
 have HE:=hid (gtr_of t x.2.2)
 have HL:=hid (sless_of (rfl:ltB t x.2.2=_))
 clear hb
 go_enter Tryz.func330,Tryz.ntmps330
 go_wp2_with fail
 go_ret
 refine ⟨ret_bool ?_,0,rfl⟩
 rw [←HE.out,HL.out]
set_option maxHeartbeats 1000000 in
theorem h5_any (t:ByteArray) (W:World) :
  Calls Tryz.prog 331 #[.string t] W fun e w'=>e=.returned (.bool true)∧∃q,w'=W.drewN q:=by
 go_enter Tryz.func331,Tryz.ntmps331
 go_wp2_with fail
 go_ret
 exact ⟨rfl,0,rfl⟩
theorem any_true (ts:List ByteArray):ts.any (fun _=>true)=decide (0<ts.length):=by
 cases ts<;>simp
set_option maxHeartbeats 4000000 in
set_option maxRecDepth 100000 in
theorem pholds_any (x:Tm) (p:Option Addr) (cap:Nat) (ts:List ByteArray) (w:World) (h:TxtAt w p ts) (hf:FitT ts) (hx:x.2.2.size≤maxLen) :
  Calls Tryz.prog 253 #[.agg #[.string x.1,.int .i64 x.2.1,.string x.2.2],.slice p ts.length cap] w fun e w'=>e=.returned (.bool (holdsT x ts))∧Grown w w':=by
 obtain ⟨W,hW⟩:∃W,w.alloc (.cells #[.string x.1,.int .i64 x.2.1,.string x.2.2] 122)=W:=⟨_,rfl⟩
 have hbw:Below w.heap.size w W:=by rw [←hW];exact (Below.refl _ _).alloc (Nat.le_refl _) _
 have HG:Hid (Grown w W):=by rw [←hW];exact (Grown.refl _).alloc _
 have hbox:BoxM W w.heap.size x:=by rw [←hW];exact boxM_new w x
 have hmf:∀(fn:Fn) (first cap:Array Value) (w:World),(Instr.makeFunc fn first cap).run Tryz.prog w=.ok (.func fn first cap) w:=fun _ _ _ _=>rfl
 have H1:=hid (hasT_any (tokenB x.2.2) 325 #[.pointer (some ⟨w.heap.size,0,none⟩)] enters_h1 p cap ts W (h.kept hbw) hf (fun V t hb ht=>h1_any w.heap.size x t V (hbox.on hb) hx ht))
 have H2:=hid (hasT_any (fun t=>beginsB t x.2.2) 327 #[.pointer (some ⟨w.heap.size,0,none⟩)] enters_h2 p cap ts W (h.kept hbw) hf (fun V t hb ht=>h2_any w.heap.size x t V (hbox.on hb)))
 have H3:=hid (hasT_any (fun t=>ltB t x.2.2) 329 #[.pointer (some ⟨w.heap.size,0,none⟩)] enters_h3 p cap ts W (h.kept hbw) hf (fun V t hb ht=>h3_any w.heap.size x t V (hbox.on hb)))
 have H4:=hid (hasT_any (fun t=>ltB x.2.2 t) 330 #[.pointer (some ⟨w.heap.size,0,none⟩)] enters_h4 p cap ts W (h.kept hbw) hf (fun V t hb ht=>h4_any w.heap.size x t V (hbox.on hb)))
 have H5:=hid (hasT_any (fun _=>true) 331 #[] enters_h5 p cap ts W (h.kept hbw) hf (fun V t hb ht=>h5_any t V))
 obtain ⟨c0,c1,c2⟩:=hbox.cells
 obtain ⟨r,hr⟩:∃r,holdsT x ts=r:=⟨_,rfl⟩
 rw [hr]
 have HR:=hid hr
 obtain ⟨xf,xo,xt⟩:=x
 simp only at hW c0 c1 c2 H1 H2 H3 H4
 unfold holdsT at HR
 simp only at HR
 rw [any_true] at H5
 obtain ⟨B1,hB1⟩:∃B,ts.any (tokenB xt)=B:=⟨_,rfl⟩
 rw [hB1] at H1 HR
 obtain ⟨B2,hB2⟩:∃B,ts.any (fun t=>beginsB t xt)=B:=⟨_,rfl⟩
 rw [hB2] at H2 HR
 obtain ⟨B3,hB3⟩:∃B,ts.any (fun t=>ltB t xt)=B:=⟨_,rfl⟩
 rw [hB3] at H3 HR
 obtain ⟨B4,hB4⟩:∃B,ts.any (fun t=>ltB xt t)=B:=⟨_,rfl⟩
 rw [hB4] at H4 HR
 have e7:decide (ts.length=0) = !decide (0<ts.length):=by cases ts<;>simp
 rw [e7] at HR
 obtain ⟨B5,hB5⟩:∃B,decide (0<ts.length)=B:=⟨_,rfl⟩
 rw [hB5] at H5 HR
 clear hr h hf hx hbox hbw hB1 hB2 hB3 hB4 hB5 e7
 by_cases hr7:1≤xo∧xo≤7
 ·rcases (show xo=1∨xo=2∨xo=3∨xo=4∨xo=5∨xo=6∨xo=7 by omega) with rfl|rfl|rfl|rfl|rfl|rfl|rfl
  ·have HV:Hid (B1=r):=by have:=HR.out;show B1=r;simpa using this
   go_enter Tryz.func253,Tryz.ntmps253
   go_wp2_with (go_at_call 304;refine H1.out.mono ?_;rintro e w1 ⟨rfl,n,rfl⟩)
   go_ret
   refine ⟨ret_bool ?_,HG.out.drewN n⟩
   rw [←HV.out]
  ·have HV:Hid ((!B1)=r):=by have:=HR.out;show (!B1)=r;simpa using this
   go_enter Tryz.func253,Tryz.ntmps253
   go_wp2_with (go_at_call 304;refine H1.out.mono ?_;rintro e w1 ⟨rfl,n,rfl⟩)
   go_ret
   refine ⟨ret_bool ?_,HG.out.drewN n⟩
   rw [←HV.out]
  ·have HV:Hid (B2=r):=by have:=HR.out;show B2=r;simpa using this
   go_enter Tryz.func253,Tryz.ntmps253
   go_wp2_with (go_at_call 304;refine H2.out.mono ?_;rintro e w1 ⟨rfl,n,rfl⟩)
   go_ret
   refine ⟨ret_bool ?_,HG.out.drewN n⟩
   rw [←HV.out]
  ·have HV:Hid (B3=r):=by have:=HR.out;show B3=r;simpa using this
   go_enter Tryz.func253,Tryz.ntmps253
   go_wp2_with (go_at_call 304;refine H3.out.mono ?_;rintro e w1 ⟨rfl,n,rfl⟩)
   go_ret
   refine ⟨ret_bool ?_,HG.out.drewN n⟩
   rw [←HV.out]
  ·have HV:Hid (B4=r):=by have:=HR.out;show B4=r;simpa using this
   go_enter Tryz.func253,Tryz.ntmps253
   go_wp2_with (go_at_call 304;refine H4.out.mono ?_;rintro e w1 ⟨rfl,n,rfl⟩)
   go_ret
   refine ⟨ret_bool ?_,HG.out.drewN n⟩
   rw [←HV.out]
  ·have HV:Hid (B5=r):=by have:=HR.out;show B5=r;simpa using this
   go_enter Tryz.func253,Tryz.ntmps253
   go_wp2_with (go_at_call 304;refine H5.out.mono ?_;rintro e w1 ⟨rfl,n,rfl⟩)
   go_ret
   refine ⟨ret_bool ?_,HG.out.drewN n⟩
   rw [←HV.out]
  ·have HV:Hid ((!B5)=r):=by have:=HR.out;show (!B5)=r;simpa using this
   go_enter Tryz.func253,Tryz.ntmps253
   go_wp2_with (go_at_call 304;refine H5.out.mono ?_;rintro e w1 ⟨rfl,n,rfl⟩)
   go_ret
   refine ⟨ret_bool ?_,HG.out.drewN n⟩
   rw [←HV.out]
 ·have HV:Hid (false=r):=by
   have:=HR.out
   rw [if_neg (by omega),if_neg (by omega),if_neg (by omega),if_neg (by omega),if_neg (by omega),if_neg (by omega),if_neg (by omega)] at this
   exact this
  have n1:(xo==1)=false:=by simp;omega
  have n2:(xo==2)=false:=by simp;omega
  have n3:(xo==3)=false:=by simp;omega
  have n4:(xo==4)=false:=by simp;omega
  have n5:(xo==5)=false:=by simp;omega
  have n6:(xo==6)=false:=by simp;omega
  have n7:(xo==7)=false:=by simp;omega
  clear hr7
  go_enter Tryz.func253,Tryz.ntmps253
  go_wp2_with fail
  go_ret
  exact ⟨ret_bool HV.out,HG.out⟩
set_option maxHeartbeats 8000000 in
set_option maxRecDepth 100000 in
theorem pmatch_any (u v:Value) (p:List Tm) (d:List Fx) (w:World) (hu:KM.Is w u p) (hp:FitM p) (hv:IsXs w v d) (hf:FitX d) (h16:∀x∈d,x.txt.length * 16≤140737488355328) :
  Calls Tryz.prog 169 #[u,v] w fun e w'=>e=.returned (.bool (matchM p (d.map Fx.fld)))∧Below w.heap.size w w':=by
 obtain ⟨q,cap,rfl,hd⟩:=hu
 have hl:=hp.1
 unfold maxLen at hl
 have HD:=hid hd
 have HV:=hid hv
 have HF:=hid hf
 have HP:=hid hp
 have H16:=hid h16
 obtain ⟨r,hr⟩:∃r,matchM p (d.map Fx.fld)=r:=⟨_,rfl⟩
 rw [hr]
 have HR:=hid hr
 clear hd hv hf hp h16 hr
 go_enter Tryz.func169,Tryz.ntmps169
 go_wp2_with fail
 go_loopg [9] p.length (fun g vi wr=>∃i:Nat,vi=.int .i64 i∧i≤p.length∧p.length-i≤g∧Below w.heap.size w wr∧Hid (∀j (h:j<p.length),j<i→holdsM p[j] (d.map Fx.fld)=true))
 case atStart=>exact ⟨0,rfl,by omega,by omega,Below.refl _ _,fun j _ h=>by omega⟩
 case round =>
  obtain ⟨i,rfl,hi,hg,hb,HJ⟩:=hrel
  by_cases hlt:i<p.length
  ·have hltz:(i:Int)<(p.length:Int):=by omega
   have hiz:(0:Int)≤i:=by omega
   obtain ⟨b,off,rfl,hat⟩:∃b off,q=some ⟨b,off,none⟩∧KM.At w b off p:=by
    rcases HD.out with h|h
    ·rw [h] at hlt;simp at hlt
    ·exact h
   obtain ⟨c0,c1,c2⟩:=km_cells (Kind.at_kept hat hb) i hlt
   have hfx:=HP.out.2 _ (List.getElem_mem hlt)
   have hno:holdsM p[i] (d.map Fx.fld)=false→r=false:=fun h=>by
    rw [←HR.out]
    unfold matchM
    rw [List.all_eq_false]
    exact ⟨_,List.getElem_mem hlt,by rw [h];simp⟩
   have hyes:holdsM p[i] (d.map Fx.fld)=true→∀j (h:j<p.length),j<i+1→holdsM p[j] (d.map Fx.fld)=true:=fun e j h hj=>by
    by_cases ej:j=i
    ·subst ej;exact e
    ·exact HJ.out j h (by omega)
   obtain ⟨x,hx⟩:∃x,p[i]=x:=⟨_,rfl⟩
   rw [hx] at c0 c1 c2 hfx hno hyes
   have HNO:=hid hno
   have HYES:=hid hyes
   have HB:=hid hb
   have hsz:=hb.size
   obtain ⟨xf,xo,xt⟩:=x
   simp only at c0 c1 c2 hfx
   clear hat hx hno hyes hb
   go_wp2_with fail
   obtain ⟨F,hF⟩:∃F,wr.heap.size=F:=⟨_,rfl⟩
   obtain ⟨W,hW⟩:∃W,wr.alloc (.cells #[.string xf,.int .i64 xo,.string xt] 122)=W:=⟨_,rfl⟩
   have hbox:BoxM W F (xf,xo,xt):=by rw [←hW,←hF];exact boxM_new wr (xf,xo,xt)
   have hbW:Below w.heap.size w W:=by rw [←hW];exact HB.out.alloc hsz _
   have HBW:=hid hbW
   have HT:=hid (texts_any v xf d W.drew (HV.out.kept hbW.drew) HF.out H16.out)
   have hFl:F<W.heap.size:=hbox.lt
   have q0:W.drew.cell? ⟨F,0,none⟩=some (.string xf)∧W.drew.cell? ⟨F,1,none⟩=some (.int .i64 xo)∧W.drew.cell? ⟨F,2,none⟩=some (.string xt):=hbox.cells
   have KS:Hid (∀w':World,Below W.drew.heap.size W.drew w'→w'.cell? ⟨F,0,none⟩=some (.string xf)∧w'.cell? ⟨F,1,none⟩=some (.int .i64 xo)∧w'.cell? ⟨F,2,none⟩=some (.string xt)):=fun w' h=>(BoxM.on (w:=W.drew) hbox h).cells
   have HTF:Hid (FitT (textsOf (d.map Fx.fld) xf)):=by
    show FitT _
    unfold textsOf
    cases hfd:(d.map Fx.fld).find? (fun f=>decide (f.1=xf)) with
    | none=>exact ⟨Nat.zero_le _,fun t ht=>by simp at ht⟩
    | some f =>
     obtain ⟨y,hy,rfl⟩:=List.mem_map.1 (List.mem_of_find?_eq_some hfd)
     exact (HF.out.2 y hy).2
   obtain ⟨ts,hts⟩:∃ts,textsOf (d.map Fx.fld) xf=ts:=⟨_,rfl⟩
   rw [hts] at HT HTF
   have HXT:Hid (holdsM (xf,xo,xt) (d.map Fx.fld)=holdsT (xf,xo,xt) ts):=by show _=_;unfold holdsM;rw [hts]
   clear hts hbox hbW
   rw [hF,hW]
   clear hF hW
   cases hB:holdsT (xf,xo,xt) ts with
   | true =>
    have HX:Hid (holdsM (xf,xo,xt) (d.map Fx.fld)=true):=by show _=_;rw [HXT.out,hB]
    have HHD:Hid (∀(W5:World) p5 c5,TxtAt W5 p5 ts→Calls Tryz.prog 253 #[.agg #[.string xf,.int .i64 xo,.string xt],.slice p5 ts.length c5] W5 fun e w'=>e=.returned (.bool true)∧Grown W5 w'):=fun W5 p5 c5 h=>by
     have:=pholds_any (xf,xo,xt) p5 c5 ts W5 h HTF.out hfx.2.1
     rwa [hB] at this
    clear hB
    go_region_held3 (fun w'=>w'.cell? ⟨F,0,none⟩=some (.string xf)∧w'.cell? ⟨F,1,none⟩=some (.int .i64 xo)∧w'.cell? ⟨F,2,none⟩=some (.string xt))
     (first|exact q0|exact q5|exact q6)
     (first
      | (go_at_call 254;refine HT.out.mono ?_;rintro e w5 ⟨⟨sv,rfl,hot5⟩,hb5⟩;obtain ⟨pc,capc,rfl⟩:=own_slice hot5;have q5:=KS.out w5 hb5;have htx5:=OwnT.txtAt hot5)
      | (go_at_call 253;refine (HHD.out _ _ _ htx5).mono ?_;rintro e w6 ⟨rfl,hg6⟩;have q6:=KS.out w6 (hb5.trans (hg6.below.mono hb5.size))))
    have hb6:Below w.heap.size w w6:=(HBW.out.drew.trans (hb5.mono (by simpa using HBW.out.size))).trans (hg6.below.mono (Nat.le_trans (by simpa using HBW.out.size) hb5.size))
    have HB6:=hid hb6
    clear hb6 hg6 hb5 hot5 htx5 q5 q6 q0
    go_wp2_with fail
    go_roundg (p.length-(i+1))
    case measure=>omega
    exact ⟨i+1,by go_num,by omega,by omega,HB6.out,HYES.out HX.out⟩
   | false =>
    have HX:Hid (holdsM (xf,xo,xt) (d.map Fx.fld)=false):=by show _=_;rw [HXT.out,hB]
    have HHD:Hid (∀(W5:World) p5 c5,TxtAt W5 p5 ts→Calls Tryz.prog 253 #[.agg #[.string xf,.int .i64 xo,.string xt],.slice p5 ts.length c5] W5 fun e w'=>e=.returned (.bool false)∧Grown W5 w'):=fun W5 p5 c5 h=>by
     have:=pholds_any (xf,xo,xt) p5 c5 ts W5 h HTF.out hfx.2.1
     rwa [hB] at this
    clear hB
    go_region_held3 (fun w'=>w'.cell? ⟨F,0,none⟩=some (.string xf)∧w'.cell? ⟨F,1,none⟩=some (.int .i64 xo)∧w'.cell? ⟨F,2,none⟩=some (.string xt))
     (first|exact q0|exact q5|exact q6)
     (first
      | (go_at_call 254;refine HT.out.mono ?_;rintro e w5 ⟨⟨sv,rfl,hot5⟩,hb5⟩;obtain ⟨pc,capc,rfl⟩:=own_slice hot5;have q5:=KS.out w5 hb5;have htx5:=OwnT.txtAt hot5)
      | (go_at_call 253;refine (HHD.out _ _ _ htx5).mono ?_;rintro e w6 ⟨rfl,hg6⟩;have q6:=KS.out w6 (hb5.trans (hg6.below.mono hb5.size))))
    have hb6:Below w.heap.size w w6:=(HBW.out.drew.trans (hb5.mono (by simpa using HBW.out.size))).trans (hg6.below.mono (Nat.le_trans (by simpa using HBW.out.size) hb5.size))
    have HB6:=hid hb6
    clear hb6 hg6 hb5 hot5 htx5 q5 q6 q0
    go_wp2_with fail
    go_ret
    exact ⟨ret_bool (HNO.out HX.out).symm,HB6.out⟩
  ·have hltz:¬ (i:Int)<(p.length:Int):=by omega
   have H0:Hid (r=true):=by
    show _=_
    rw [←HR.out]
    unfold matchM
    rw [List.all_eq_true]
    intro x hx
    obtain ⟨j,hj,rfl⟩:=List.mem_iff_getElem.1 hx
    exact HJ.out j hj (by omega)
   go_wp2_with fail
   go_ret
   exact ⟨ret_bool H0.out.symm,hb⟩
end
section
open Go.RowKit
theorem wpListIn_append_own_wide {F:Fence} {n:Nat} {P:Program} (w:World) {ops:Array Oper} {rest:List Oper} {o:Oper} {a:Act} {Q:Exit→Act→World→Prop}
  (hg:o.guard=none) (s x:Operand) (t:TypeId) (hop:o.op=Op.call { callee:=Callee.builtin Builtin.append,args:=#[s,x],argTypes:=#[t,t] })
  (base:Nat) (e:TypeId) (i:TypeInfo) (z:Value) (size bytes:Nat) (h1:P.underlying t=some (.slice e)) (h2:P.info? e=some i) (h3:i.zero=some z) (h4:i.size=size) (h5:i.bytes=bytes) (h6:z.cells.size=size) (h7:0<size)
  (v:Value) (k:Nat) (xs:List Value) (hs:a.eval s=v) (hown:w.ownsRow base e size v k xs) (ad:Addr) (m c:Nat) (news:List Value) (hx:a.eval x=.slice (some ad) m c) (hn:news.length=m * size)
  (hc:∀j u,news[j]? = some u→w.cell? (ad.add j)=some u) (h1c:∀u∈news,u.oneCell'=true) (b1:k+m≤maxLen) (b2:((k+m)+(k+m) / 4+192) * bytes≤281474976710656) (b3:base≤w.heap.size)
  (hK:∀v' w',w'.ownsRow base e size v' (k+m) (xs++news)→w.grownBy w' v.ownBlock→(v'=.slice none 0 0↔v=.slice none 0 0∧m=0)→wpListIn F n P ops Q rest (a.put o.dst v') w') :
  wpListIn F n P ops Q (o::rest) a w:=by
 refine wpListIn_plain hg fun K hK'=>?_
 obtain ⟨v',w',hrun,r1,r2,r3⟩:=run_append_own_wide (P:=P) w base t o.type e i z size bytes h1 h2 h3 h4 h5 h6 h7 v k xs hown ad m c news hn hc h1c b1 b2 b3
 unfold Oper.wpIn
 refine ⟨?_,?_⟩
 ·simp [Oper.about,hop,resolve,Target.leads,Sem.run_pure]
 ·rw [Oper.semAt_plain F _ _ (by rw [hop];intro c hc';cases hc')]
  simp [execOp,hop,resolve,invoke,builtin,hs,hx,hrun,Result.andThen]
  exact hK' _ _ (hK v' w' r1 r2 r3)
end
section
open Go.RowKit
attribute [local go_sem] Oper.semAt_some
theorem Tryz.infoFd:(Tryz.prog.info? 110).map (fun i=>(i.zero,i.size,i.bytes))=some (some (.agg #[.string ⟨#[]⟩,.string ⟨#[]⟩,.int .i64 0,.int .u64 0,.int .i64 0,.bool false,.slice none 0 0]),7,88):=by kernel_rfl
theorem dir_len {D:List RowD} (h:OkD D):D.length≤countD D:=by
 induction D with
 | nil=>exact Nat.zero_le _
 | cons r d ih =>
  have h1:=ih h.tail
  have h2:r.2.length≠0:=fun e=>(h.ok r List.mem_cons_self).2 (List.length_eq_zero_iff.1 e)
  simp only [countD,List.map_cons,List.sum_cons,List.length_cons] at h1 ⊢
  omega
theorem keysD_len {D:List RowD} (h:OkD D) (typ:ByteArray):(keysD D typ).length≤countD D:=by
 have h1:(keysD D typ).length≤(D.map Prod.fst).length:=List.length_filter_le _ _
 rw [List.length_map] at h1
 have:=dir_len h
 omega
theorem keysD_fit {n0:Nat} {W:World} {g m n:Nat} {G:Ky→Cm} {D:List RowD} (h:DirM n0 W g m n G D) {ks:List Ky} (hk:∀k∈ks,k∈D.map Prod.fst):∀k∈ks,FitK k:=fun k hm=>key_fit (h.key k ((there_iff h.ok k).1 (hk k hm)))
theorem filterMap_same {α β:Type} {f g:α→Option β}:∀{l:List α},(∀x∈l,f x=g x)→l.filterMap f=l.filterMap g
 | [],_=>rfl
 | x::l,h=>by
  rw [List.filterMap_cons,List.filterMap_cons,h x List.mem_cons_self,filterMap_same fun y hy=>h y (List.mem_cons_of_mem _ hy)]
theorem live_walk {D:List RowD} (h:OkD D) (t:Int):liveL D t (D.map Prod.fst)=walkD D t:=by
 unfold liveL walkD
 rw [List.filterMap_map]
 refine filterMap_same fun r hr=>?_
 show liveAt t (r.1,ofD D r.1)=liveAt t r
 rw [ofD_mem h hr]
theorem live_keep {D:List RowD} {t:Int} {k:Ky} {x:Fnd} (h:liveAt t (k,ofD D k)=some x):x.1=k:=by
 unfold liveAt at h
 cases ha:atV (k,ofD D k).2 t with
 | none=>rw [ha] at h;cases h
 | some v =>
  rw [ha] at h
  simp only [Option.bind_some] at h
  split at h
  ·injection h with h;rw [←h]
  ·cases h
theorem live_filter (D:List RowD) (t:Int) (q:Ky→Bool):∀ks:List Ky,liveL D t (ks.filter q)=(liveL D t ks).filter fun x=>q x.1
 | []=>rfl
 | k::ks=>by
  have ih:=live_filter D t q ks
  unfold liveL at ih ⊢
  rw [List.filter_cons,List.filterMap_cons]
  cases ha:liveAt t (k,ofD D k) with
  | none =>
   split
   ·rw [List.filterMap_cons,ha];exact ih
   ·exact ih
  | some x =>
   have hk:=live_keep ha
   simp only [List.filter_cons,hk]
   split
   ·rw [List.filterMap_cons,ha]
    simp only [ih]
   ·exact ih
theorem live_type {D:List RowD} (h:OkD D) (t:Int) (typ:ByteArray):liveL D t (keysD D typ)=(walkD D t).filter fun x=>decide (x.1.1=typ):=by
 unfold keysD
 rw [live_filter,live_walk h]
theorem scan_eq {D:List RowD} (h:OkD D) (t:Int) (typ:ByteArray) (P:List Fld→Bool):(liveL D t (keysD D typ)).filter (fun x=>P x.2.val)=scanD D typ t P:=by
 rw [live_type h,List.filter_filter]
 unfold scanD
 congr 1
 funext x
 exact Bool.and_comm _ _
theorem row_keys {B:Nat} {w:World} {u:Value} {keys:List Ky} (h:KK.Own B w u keys):∃p cap,u=.slice p keys.length cap∧∀(w4:World) (Bf:Nat),Below w.heap.size w w4→Bf<B→keys=[]∨∃b off,p=some ⟨b,off,none⟩∧KK.At w4 b off keys∧b≠Bf:=by
 rcases h.2 with ⟨rfl,hz⟩|⟨g,cap,cur,rfl,_⟩
 ·obtain rfl:=List.length_eq_zero_iff.1 hz
  exact ⟨none,0,rfl,fun _ _ _ _=>Or.inl rfl⟩
 ·refine ⟨_,cap,rfl,fun w4 Bf hb hB=>Or.inr ⟨g,0,rfl,Kind.at_kept (Kind.own_at h) hb,?_⟩⟩
  have:=(Kind.own_ge h).1
  omega
def AxX (Bf:Nat) (w:World) (sel:Fnd→Bool) (N:Nat) (A:Nat→Nat→Kx→Act) (pre:List Kx) (x:Kx) (a':Act) (W:World):Prop :=
 ∃Bx By v fs,a'=A Bx By x∧W.heap[Bx]? = some (.cells #[.string x.1.1,.string x.1.2] 39 (0,0))∧VerAt W By x.2∧FdSt Bf w sel pre v fs W∧GdX w.heap.size N pre x W
theorem AxX.own_from (Bf:Nat) (w:World) (sel:Fnd→Bool) (N:Nat) (A:Nat→Nat→Kx→Act) (pre:List Kx) (x:Kx) (a':Act):OwnFrom w.heap.size (fun (_:Unit) W=>AxX Bf w sel N A pre x a' W):=by
 rintro _ W W' row ⟨Bx,By,v,fs,h1,h2,h3,h4,h5⟩ hg hr
 exact ⟨Bx,By,v,fs,h1,cells_nc h2 hg fun r e=>(hr r e).2,cells_nc h3 hg fun r e=>(hr r e).2,h4.nc hg hr,h5.nc hg fun r e=>(hr r e).2⟩
theorem AxX.lay {Bf:Nat} {w:World} {sel:Fnd→Bool} {N:Nat} {A:Nat→Nat→Kx→Act} {pre:List Kx} {x:Kx} {W:World} {v:Value} {fs:List Fd} (h:FdSt Bf w sel pre v fs W) (hg:GdX w.heap.size N pre x W) :
  KeepsFrom w.heap.size W ((W.alloc (.cells #[.string x.1.1,.string x.1.2] 39)).alloc (.cells (encVx x.2).toArray 46))∧KpX Bf w.heap.size W ((W.alloc (.cells #[.string x.1.1,.string x.1.2] 39)).alloc (.cells (encVx x.2).toArray 46)) ∧
   AxX Bf w sel N A pre x (A W.heap.size (W.heap.size+1) x) ((W.alloc (.cells #[.string x.1.1,.string x.1.2] 39)).alloc (.cells (encVx x.2).toArray 46)):=by
 have hb:Below W.heap.size W ((W.alloc (.cells #[.string x.1.1,.string x.1.2] 39)).alloc (.cells (encVx x.2).toArray 46)):=((Below.refl _ _).alloc (Nat.le_refl _) _).alloc (by simp) _
 refine ⟨keeps_of (P:=fun _=>False) (Fr.of_below hb) fun b _ e=>e.elim,Fr.of_below hb,_,_,v,fs,rfl,?_,?_,h.on hb,hg.nc (grown_of hb) fun r e=>by cases e⟩
 ·rw [Below.heap_alloc _ _ _ (by simp)]
  exact heap_alloc_new W _
 ·have:=heap_alloc_new (W.alloc (.cells #[.string x.1.1,.string x.1.2] 39)) (.cells (encVx x.2).toArray 46)
  simpa [VerAt] using this
set_option maxHeartbeats 4000000 in
set_option maxRecDepth 100000 in
theorem dscan_any {n0:Nat} {W0:World} {g m n:Nat} {G:Ky→Cm} {D:List RowD} (h:DirM n0 W0 g m n G D) (hn:n≤1760000000000) (typ:ByteArray) (t:Int) (pa:Option Addr) (pc:Nat) (pt:List Tm) (hp:KM.Is W0 (.slice pa pt.length pc) pt) (hpf:FitM pt) :
  Calls Tryz.prog 98 #[.pointer (some ⟨g,0,none⟩),.string typ,.int .u64 t,.slice pa pt.length pc] W0 fun e w'=>FdPost W0 (scanD D typ t (matchM pt)) e w':=by
 obtain ⟨N,hN⟩:∃N,W0.heap.size=N:=⟨_,rfl⟩
 obtain ⟨W2,hW2⟩:∃W2,(W0.alloc (.cells #[.slice pa pt.length pc] 41)).alloc (.cells #[.slice none 0 0] 47)=W2:=⟨_,rfl⟩
 have hb2:Below N W0 W2:=by rw [←hW2,←hN];exact ((Below.refl _ _).alloc (Nat.le_refl _) _).alloc (by simp) _
 have hs2:W2.heap.size=N+2:=by rw [←hW2,←hN];simp
 have hpb:W2.heap[N]? = some (.cells #[.slice pa pt.length pc] 41 (0,0)):=by
  rw [←hW2,←hN,Below.heap_alloc _ _ _ (by simp)];exact heap_alloc_new W0 _
 have hfb:W2.heap[N+1]? = some (.cells #[.slice none 0 0] 47 (0,0)):=by
  rw [←hW2,←hN];have:=heap_alloc_new (W0.alloc (.cells #[.slice pa pt.length pc] 41)) (.cells #[.slice none 0 0] 47);simpa using this
 have hD2:DirM n0 W2 g m n G D:=h.on (by rw [hN];exact hb2)
 have HKE:=hid (dkeys_any hD2 (by omega) typ)
 have hkl:=keysD_len h.ok typ
 have hfew:=h.few
 have HFIT:=hid (keysD_fit h (ks:=keysD D typ) fun k hk=>(List.mem_filter.1 hk).1)
 have HEQ:=hid (scan_eq h.ok t typ (matchM pt))
 have HBLK:Hid (∀b,BlkD g m G D b→b<N):=fun b hb=>by rw [←hN];exact (h.blk b hb).2
 have HD2:=hid hD2
 have HB2:=hid hb2
 have HP:=hid hp
 have HPF:=hid hpf
 obtain ⟨keys,hkeys⟩:∃keys,keysD D typ=keys:=⟨_,rfl⟩
 rw [hkeys] at HKE HFIT HEQ hkl
 clear h hD2 hb2 hp hpf hkeys
 refine (callsIn_wide (n:=3)).1 ?_
 refine callsIn_of_wp_marks Tryz.func98 rfl trivial ?_ rfl
 simp only [Tryz.ntmps98,List.size_toArray,List.length_cons,List.length_nil,Nat.reduceAdd,Nat.reduceSub,Array.replicate_succ,Array.replicate_zero,List.push_toArray,List.append_toArray,List.nil_append,List.cons_append]
 gi_wp2
 refine ⟨trivial,?_⟩
 gi_at_call 168
 refine (callsIn_wide.2 HKE.out).mono ?_
 rintro e w3 ⟨u,rfl,ho3,hb3⟩
 have hs3:=hb3.size
 obtain ⟨kp,kc,rfl,hrow⟩:=row_keys ho3
 have HROW:=hid hrow
 have HB3:=hid hb3
 clear hrow ho3 hb3 HKE
 gi_wp2
 refine ⟨trivial,?_⟩
 gi_at_call 167
 refine (callsIn_wide.2 (dlive_any w3 g kp keys.length kc t)).mono ?_
 rintro e w4 ⟨rfl,hw4⟩
 obtain ⟨M,hM⟩:∃M,w3.heap.size=M:=⟨_,rfl⟩
 have hb4:Below M w3 w4:=by rw [hw4,←hM];exact (((Below.refl _ _).alloc (Nat.le_refl _) _).alloc (by simp) _).alloc (by simp;omega) _
 have hs4:w4.heap.size=M+3:=by rw [hw4,←hM];simp
 have x0:w4.heap[M]? = some (.cells #[.pointer (some ⟨g,0,none⟩)] 133 (0,0)):=by
  rw [hw4,←hM,Below.heap_alloc _ _ _ (by simp;omega),Below.heap_alloc _ _ _ (by simp)];exact heap_alloc_new w3 _
 have x1:w4.heap[M+1]? = some (.cells #[.slice kp keys.length kc] 50 (0,0)):=by
  rw [hw4,←hM,Below.heap_alloc _ _ _ (by simp)];have:=heap_alloc_new (w3.alloc (.cells #[.pointer (some ⟨g,0,none⟩)] 133)) (.cells #[.slice kp keys.length kc] 50);simpa using this
 have x2:w4.heap[M+2]? = some (.cells #[.int .u64 t] 22 (0,0)):=by
  rw [hw4,←hM];have:=heap_alloc_new ((w3.alloc (.cells #[.pointer (some ⟨g,0,none⟩)] 133)).alloc (.cells #[.slice kp keys.length kc] 50)) (.cells #[.int .u64 t] 22);simpa using this
 have hb24:Below W2.heap.size W2 w4:=bel_then HB3.out hs3 (by rw [hM];exact hb4)
 have hb04:Below N W0 w4:=HB2.out.trans (hb24.mono (by omega))
 have HLV:Hid (LvAt n0 w4 g m n G D keys t kp kc M (M+1) (M+2) (N+1)) :=
  ⟨HD2.out.on hb24,x0,x1,x2,HROW.out w4 (N+1) (by rw [hM];exact hb4) (by omega),HFIT.out,by omega,by omega,by omega,by omega,fun hb=>by have:=HBLK.out _ hb;omega⟩
 have HF0:Hid (FdSt (N+1) w4 (fun x=>matchM pt x.2.val) [] (.slice none 0 0) [] w4) :=
  ⟨(hb24.block (N+1) (by omega)).trans hfb,KFd.own_nil _ _,fun f hf=>by simp at hf,rfl,Nat.le_refl _,Fr.refl _ _,by omega⟩
 have HPB:=hid ((hb24.block N (by omega)).trans hpb)
 have HB04:=hid hb04
 clear hw4 hb4 x0 x1 x2 hb24 hb04 hpb hfb HB3 HROW HFIT HD2
 have hen:=enters_of (P:=Tryz.prog) Tryz.func252 (by kernel_rfl) rfl
 rw [hM]
 gi_wp2
 refine wpIn_rangeFunc_mem (w:=w4) rfl (by decide) (gf:=252) (lb:=#[.pointer (some ⟨M+1,0,none⟩),.pointer (some ⟨M,0,none⟩),.pointer (some ⟨M+2,0,none⟩)]) rfl trivial hen
  (live_seq 2 (by decide) HLV.out) kpX_trans (fun W l o' hl _=>kpX_put W l o' hl) (fun _=>rfl) (fun pre W=>∃v fs,FdSt (N+1) w4 (fun x=>matchM pt x.2.val) pre v fs W) (fun _ _ _=>False) (FdSt.own_from _ _ _) (fun _ _ _ _ _ h _ _=>h.elim) ⟨_,_,HF0.out⟩
  (AxX (N+1) w4 (fun x=>matchM pt x.2.val) keys.length (fun Bx By x=>{ tmps:=#[.pointer (some ⟨g,0,none⟩),.string typ,.int .u64 t,.slice pa pt.length pc,undef,undef,undef,.pointer (some ⟨N,0,none⟩),.slice none 0 0,.pointer (some ⟨N+1,0,none⟩),.pointer (some ⟨Bx,0,none⟩),.pointer (some ⟨By,0,none⟩),.pointer (some ⟨g,0,none⟩),.pointer (some ⟨g,0,none⟩),.string typ,.slice kp keys.length kc,.int .u64 t,
   .func (.func 252) #[] #[.pointer (some ⟨M+1,0,none⟩),.pointer (some ⟨M,0,none⟩),.pointer (some ⟨M+2,0,none⟩)],.agg #[.string x.1.1,.string x.1.2],.agg (encVx x.2).toArray,undef,undef,undef,undef,undef,undef,undef,undef,undef,undef,undef],defers:=[] }))
  (fun pre x a'=>AxX.own_from _ _ _ _ _ pre x a') ?assign ?body ?done ?stop
 case assign =>
  rintro l pre ⟨⟨ka,kb⟩,x⟩ W K hlt ⟨v,fs,hF⟩ hG hK
  obtain ⟨k1,k2,k3⟩:=AxX.lay (A:=fun Bx By (x:Kx)=>{ tmps:=#[.pointer (some ⟨g,0,none⟩),.string typ,.int .u64 t,.slice pa pt.length pc,undef,undef,undef,.pointer (some ⟨N,0,none⟩),.slice none 0 0,.pointer (some ⟨N+1,0,none⟩),.pointer (some ⟨Bx,0,none⟩),.pointer (some ⟨By,0,none⟩),.pointer (some ⟨g,0,none⟩),.pointer (some ⟨g,0,none⟩),.string typ,.slice kp keys.length kc,.int .u64 t,
   .func (.func 252) #[] #[.pointer (some ⟨M+1,0,none⟩),.pointer (some ⟨M,0,none⟩),.pointer (some ⟨M+2,0,none⟩)],.agg #[.string x.1.1,.string x.1.2],.agg (encVx x.2).toArray,undef,undef,undef,undef,undef,undef,undef,undef,undef,undef,undef],defers:=[] }) hF hG
  have HK:=hid (hK _ _ k1 k2 k3)
  obtain ⟨xn,xs,xt,xl,xp,xc,xo⟩:=x
  simp only [encVx,Vx.sl,encKx] at HK ⊢
  clear hK k1 k2 k3 hF hG
  gi_wp2
  exact HK.out
 case body =>
  rintro l pre ⟨⟨ka,kb⟩,x⟩ a' W hlt ⟨Bx,By,v,fs,rfl,hbx,hby,hF,hG⟩
  obtain ⟨i0,hi0,hz0,hz1,hz2⟩:=info_parts Tryz.infoFd
  have hfr:=hF.fr
  have hsW:=hfr.size
  have hbW:Below N W0 W:=HB04.out.trans (hfr.below (N:=N) (by omega) fun k hk=>by omega)
  have hpb:W.heap[N]? = some (.cells #[.slice pa pt.length pc] 41 (0,0)):=(hfr.block N (by omega) (by omega)).trans HPB.out
  obtain ⟨hfit,hcopy⟩:=may_fit hG.2.1
  have HM:=hid (pmatch_any (.slice pa pt.length pc) x.sl pt x.o W (Kind.is_kept HP.out (by rw [hN];exact hbW)) HPF.out hG.1.1.is hfit hcopy.2)
  have HSEL:Hid (matchM pt (fndX ((ka,kb),x)).2.val=matchM pt (x.o.map Fx.fld)):=rfl
  have hlen:=hF.len
  have hplen:=hG.2.2.1
  obtain ⟨vp,vc,rfl⟩:=Kind.own_shape hF.own
  have c0:W.cell? ⟨N,0,none⟩=some (.slice pa pt.length pc):=cz hpb
  obtain ⟨y0,y1,y2,y3,y4⟩:=VerAt.cells hby
  have KB:Hid (∀w',Below W.heap.size W w'→w'.cell? ⟨N+1,0,none⟩=some (.slice vp fs.length vc)∧w'.frozen? ⟨N+1,0,none⟩=false∧w'.cell? ⟨Bx,0,none⟩=some (.string ka)∧w'.cell? ⟨Bx,1,none⟩=some (.string kb)∧VerAt w' By x):=fun w' hb=>by
   have h1:=(hb.block (N+1) (by omega)).trans hF.box
   have h2:=(hb.block Bx (Array.getElem?_eq_some_iff.1 hbx).1).trans hbx
   exact ⟨by rw [Lib.cell_of_heap h1];rfl,Lib.frozen_of_heap h1 0,by rw [Lib.cell_of_heap h2];rfl,by rw [Lib.cell_of_heap h2];rfl,(hb.block By (Array.getElem?_eq_some_iff.1 hby).1).trans hby⟩
  have HF:=hid hF
  have HG:=hid hG
  have HI:=hid hi0
  obtain ⟨bm,hbm⟩:∃bm,matchM pt (x.o.map Fx.fld)=bm:=⟨_,rfl⟩
  rw [hbm] at HM HSEL
  clear hfr hbW hpb hfit hcopy hF hG hbx hi0 hbm
  obtain ⟨xn,xs,xt,xl,xp,xc,xo⟩:=x
  simp only [encVx,Vx.sl] at *
  clear hby
  gi_wp2
  refine ⟨trivial,?_⟩
  gi_at_call 169
  refine (CallsIn.inRound l (callsIn_wide.2 HM.out)).mono ?_
  rintro e W5 ⟨rfl,hb5⟩
  have hs5:=hb5.size
  obtain ⟨z0,z1,z2,z3,z4⟩:=KB.out W5 hb5
  obtain ⟨q0,q1,q2,q3,q4⟩:=z4.cells
  have HB5:=hid hb5
  clear hb5 z4 y0 y1 y2 y3 y4 c0
  cases bm with
  | false =>
   gi_wp2
   obtain ⟨r1,r2,r3⟩:=fd_pass (x:=((ka,kb),⟨xn,xs,xt,xl,xp,xc,xo⟩)) HF.out HB5.out HSEL.out
   exact ⟨r1,r2,_,_,r3⟩
  | true =>
   have HO5:Hid (KFd.Own w4.heap.size W5 (.slice vp fs.length vc) fs):=Kind.own_on HF.out.own HB5.out
   have KB6:Hid (∀o (w6:World),(W5.alloc o).grownBy w6 (Value.slice vp fs.length vc).ownBlock→w6.cell? ⟨N+1,0,none⟩=some (.slice vp fs.length vc)∧w6.frozen? ⟨N+1,0,none⟩=false):=fun o w6 hg=>by
    have h1:w6.heap[N+1]? = some (.cells #[.slice vp fs.length vc] 47 (0,0)):=(hg.block (N+1) (by simp;omega) fun e=>by have:=(World.ownsRow.lt HO5.out _ e.symm).1;omega).trans ((Below.heap_alloc _ _ _ (by omega)).trans ((HB5.out.block (N+1) (by omega)).trans HF.out.box))
    exact ⟨by rw [Lib.cell_of_heap h1];rfl,Lib.frozen_of_heap h1 0⟩
   gi_wp2_with (first
    | (gi_at_builtin;refine wpListIn_append_own_wide _ rfl _ _ 47 rfl w4.heap.size 110 i0 (.agg #[.string ⟨#[]⟩,.string ⟨#[]⟩,.int .i64 0,.int .u64 0,.int .i64 0,.bool false,.slice none 0 0]) 7 88 Tryz.underlying47 HI.out hz0 hz1 hz2 rfl (by decide) _ _ _ rfl (World.ownsRow.alloc HO5.out _) _ 1 1 [.string ka,.string kb,.int .i64 xn,.int .u64 xs,.int .i64 xt,.bool xl,.slice xp xo.length xc] rfl rfl (fun j u hj=>KFd.newsN W5 ⟨ka,kb,⟨xn,xs,xt,xl,xp,xc,xo⟩⟩ _ (by simp) j u hj) (by intro u hu;simp at hu;rcases hu with rfl|rfl|rfl|rfl|rfl|rfl|rfl<;>rfl) (by unfold maxLen;omega) (by omega) (by simp;omega) ?_;intro v6 w6 hown6 hg6 hnil6;obtain ⟨g6,c6,rfl⟩:=ownsRow_succ hown6;obtain ⟨t0,t1⟩:=KB6.out _ _ hg6;have HO6:=hid hown6;have HG6:=hid hg6;clear hown6 hg6 hnil6))
   obtain ⟨r1,r2,r3⟩:=fd_push (x:=((ka,kb),⟨xn,xs,xt,xl,xp,xc,xo⟩)) HF.out HG.out (bel_then HB5.out hs5 ((Below.refl _ W5).alloc (Nat.le_refl _) _)) HG6.out (Kind.own_snoc HO6.out rfl rfl) HSEL.out
   exact ⟨r1,r2,_,_,r3⟩
 case done =>
  rintro xs W hS ⟨v,fs,hF⟩ hK
  obtain ⟨vp,vc,rfl⟩:=Kind.own_shape hF.own
  have c0:W.cell? ⟨N+1,0,none⟩=some (.slice vp fs.length vc):=by rw [Lib.cell_of_heap hF.box];rfl
  have hgp:W.grownBy (W.putObj w4.heap.size (.deferred none)) (some w4.heap.size):=grownBy_putObj' W _ _
  have hFp:=hF.nc hgp fun r e=>by injection e with e;rw [←e];exact ⟨Nat.le_refl _,_,hK,rfl⟩
  have hb0:Below N W0 (W.putObj w4.heap.size (.deferred none)):=HB04.out.trans (hFp.fr.below (N:=N) (by omega) fun k hk=>by omega)
  have HP:Hid (FdPost W0 (scanD D typ t (matchM pt)) (.returned (.slice vp fs.length vc)) (W.putObj w4.heap.size (.deferred none))):=by
   refine ⟨_,fs,rfl,?_,fun f hf=>⟨?_,(hFp.val f hf).2⟩,?_,by rw [hN];exact hb0⟩
   ·exact Kind.own_weak hFp.own (by omega)
   ·exact own_weakJ (hFp.val f hf).1 (by omega)
   ·rw [hFp.eq,hS]
    exact HEQ.out
  have HK:=hid hK
  clear hF hFp hgp hb0 hK
  gi_wp2
  refine ⟨by simp,.inl ⟨_,_,rfl,run_takeDeferred HK.out,?_⟩⟩
  exact ⟨.slice vp fs.length vc,by simp [results,Tryz.results98,go_sem],HP.out⟩
 case stop =>
  rintro c pre W _ hx _
  exact hx.elim
end
section
def PreD (s:Int) (D E:List RowD):Prop:=∀k,PreV s (ofD D k) (ofD E k)∧(ofD E k=[]→∀f,(ofD D k).head? = some f→f.num=1)
theorem preD_refl (s:Int) (D:List RowD):PreD s D D:=fun k=>⟨pre_refl s _,fun h f hf=>by rw [h] at hf;cases hf⟩
theorem preD_put {s:Int} {D E:List RowD} (h:PreD s D E) (k:Ky) {stamp:Int} (hs:s<stamp) (tick:Int) (live:Bool) (val:List Fld):PreD s (putD D k stamp tick live val) E:=by
 unfold putD
 split
 ·intro k'
  rw [setD_of]
  split
  ·next e =>
   subst e
   refine ⟨pre_snoc (h _).1 hs,fun he f hf=>?_⟩
   cases hd:ofD D k' with
   | nil =>
    rw [hd] at hf
    unfold putV at hf
    rw [List.nil_append] at hf
    injection hf with hf
    rw [←hf]
    rfl
   | cons x l =>
    refine (h _).2 he f ?_
    rw [hd] at hf ⊢
    exact hf
  ·exact h k'
 ·exact h
end
section
open Go.RowKit
structure Dn where
 snap:Int
 stamp:Int
 out:Bool
 marks:Mk
 chg:List Ch
structure Tk where
 most:Nat
 kept:List Dn
 last:Option Int
 sum:Int
def roomT (most:Int):Nat:=(min (max most 0) 64).toNat
def newT (most:Int):Tk:=⟨roomT most,[],none,0⟩
def besideT (s:Int) (d:Dn):Bool:=decide (s<d.stamp)
def outT (l:List Dn) (s:Int) (m:Mk):Bool:=l.any fun d=>besideT s d&&hitsM m d.chg
def deepT (l:List Dn) (s:Int) (m:Mk):Bool:=l.any fun d=>besideT s d&&(hitsM m d.chg&&d.out)
def inT (l:List Dn) (s:Int) (c:List Ch):Bool:=l.any fun d=>besideT s d&&hitsM d.marks c
def clashT (t:Tk) (s:Int) (m:Mk) (c:List Ch):Bool:=decide (s<t.sum)||deepT t.kept s m||(outT t.kept s m&&inT t.kept s c)
def checkT (t:Tk) (s:Int) (m:Mk) (c:List Ch):Bool × Int:=if clashT t s m c then (false,11) else (outT t.kept s m,0)
def oldT (t:Tk) (d:Dn):Bool:=match t.last with|some s=>decide (d.stamp<s)|none=>false
def keepT (t:Tk) (d:Dn):Tk :=
 if t.kept.length<t.most then ⟨t.most,t.kept++[d],some d.stamp,t.sum⟩
 else match t.kept with
  | []=>⟨t.most,[],some d.stamp,max t.sum d.stamp⟩
  | x::r=>⟨t.most,r++[d],some d.stamp,max t.sum x.stamp⟩
def addT (t:Tk) (d:Dn):Int × Tk:=if oldT t d then (8,t) else (0,keepT t d)
def dropT (t:Tk) (least:Int):Tk:={ t with kept:=t.kept.filter fun d=>decide (least<d.stamp) }
structure OkT (t:Tk):Prop where
 few:t.kept.length≤t.most
 rise:t.kept.Pairwise fun a b=>a.stamp≤b.stamp
 top:∀d∈t.kept,∃s,t.last=some s∧d.stamp≤s
 low:∀d∈t.kept,t.sum≤d.stamp
 sum:0≤t.sum∧(t.sum=0∨∃s,t.last=some s∧t.sum≤s)
theorem ok_newT (most:Int):OkT (newT most):=⟨Nat.zero_le _,List.Pairwise.nil,fun d hd=>by simp [newT] at hd,fun d hd=>by simp [newT] at hd,Int.le_refl _,Or.inl rfl⟩
theorem keepT_last (t:Tk) (d:Dn):(keepT t d).last=some d.stamp:=by
 unfold keepT
 split
 ·rfl
 ·split<;>rfl
theorem keepT_most (t:Tk) (d:Dn):(keepT t d).most=t.most:=by
 unfold keepT
 split
 ·rfl
 ·split<;>rfl
theorem keepT_sum (t:Tk) (d:Dn):t.sum≤(keepT t d).sum:=by
 unfold keepT
 split
 ·exact Int.le_refl _
 ·split
  ·show t.sum≤max t.sum d.stamp;omega
  ·next x _ _=>show t.sum≤max t.sum x.stamp;omega
theorem old_not {t:Tk} {d:Dn} (h:oldT t d=false) {s:Int} (hs:t.last=some s):s≤d.stamp:=by
 unfold oldT at h
 rw [hs] at h
 have:=of_decide_eq_false h
 omega
theorem ok_keepT {t:Tk} (h:OkT t) {d:Dn} (hd:oldT t d=false) (h0:0≤d.stamp):OkT (keepT t d):=by
 have hup:∀x∈t.kept,x.stamp≤d.stamp:=fun x hx=>by
  obtain ⟨s,hs,hle⟩:=h.top x hx
  have:=old_not hd hs
  omega
 have hsum:t.sum≤d.stamp:=by
  rcases h.sum.2 with e|⟨s,hs,hle⟩
  ·omega
  ·have:=old_not hd hs
   omega
 refine ⟨?_,?_,fun x hx=>⟨d.stamp,keepT_last t d,?_⟩,fun x hx=>?_,?_⟩
 ·rw [keepT_most]
  have:=h.few
  unfold keepT
  split
  ·show (t.kept++[d]).length≤_;rw [List.length_append,List.length_singleton];omega
  ·split
   ·exact Nat.zero_le _
   ·next x r hk=>rw [hk] at this;show (r++[d]).length≤_;rw [List.length_append,List.length_singleton];exact this
 ·unfold keepT
  split
  ·exact List.pairwise_append.2 ⟨h.rise,List.pairwise_singleton _ _,fun a ha b hb=>by rw [List.mem_singleton.1 hb];exact hup a ha⟩
  ·split
   ·exact List.Pairwise.nil
   ·next x r hk =>
    have hr:=h.rise
    rw [hk] at hr
    refine List.pairwise_append.2 ⟨(List.pairwise_cons.1 hr).2,List.pairwise_singleton _ _,fun a ha b hb=>?_⟩
    rw [List.mem_singleton.1 hb]
    exact hup a (by rw [hk];exact List.mem_cons_of_mem _ ha)
 ·unfold keepT at hx
  split at hx
  ·rcases List.mem_append.1 hx with hx|hx
   ·exact hup x hx
   ·rw [List.mem_singleton.1 hx];exact Int.le_refl _
  ·split at hx
   ·simp at hx
   ·next y r hk =>
    rcases List.mem_append.1 hx with hx|hx
    ·exact hup x (by rw [hk];exact List.mem_cons_of_mem _ hx)
    ·rw [List.mem_singleton.1 hx];exact Int.le_refl _
 ·unfold keepT at hx ⊢
  split
  ·next hc =>
   rw [if_pos hc] at hx
   rcases List.mem_append.1 hx with hx|hx
   ·exact h.low x hx
   ·rw [List.mem_singleton.1 hx];exact hsum
  ·next hc =>
   rw [if_neg hc] at hx
   split
   ·next hk=>rw [hk] at hx;simp at hx
   ·next y r hk =>
    rw [hk] at hx
    show max t.sum y.stamp≤x.stamp
    have hy:=hup y (by rw [hk];exact List.mem_cons_self)
    rcases List.mem_append.1 hx with hx|hx
    ·have h1:=h.low x (by rw [hk];exact List.mem_cons_of_mem _ hx)
     have hr:=h.rise
     rw [hk] at hr
     have h2:=(List.pairwise_cons.1 hr).1 x hx
     omega
    ·rw [List.mem_singleton.1 hx];omega
 ·have h1:=h.sum.1
  have h2:=keepT_sum t d
  refine ⟨by omega,Or.inr ⟨d.stamp,keepT_last t d,?_⟩⟩
  unfold keepT
  split
  ·exact hsum
  ·split
   ·show max t.sum d.stamp≤d.stamp;omega
   ·next x r hk =>
    have:=hup x (by rw [hk];exact List.mem_cons_self)
    show max t.sum x.stamp≤d.stamp;omega
theorem ok_addT {t:Tk} (h:OkT t) (d:Dn) (h0:0≤d.stamp):OkT (addT t d).2:=by
 unfold addT
 cases e:oldT t d with
 | true=>exact h
 | false=>exact ok_keepT h e h0
theorem ok_dropT {t:Tk} (h:OkT t) (least:Int):OkT (dropT t least) :=
 ⟨Nat.le_trans (List.length_filter_le _ _) h.few,h.rise.sublist List.filter_sublist,fun d hd=>h.top d (List.mem_filter.1 hd).1,fun d hd=>h.low d (List.mem_filter.1 hd).1,h.sum⟩
end
section
open Go.RowKit
def insP {β:Type} (x:Ky × β):List (Ky × β)→List (Ky × β)
 | []=>[x]
 | y::r=>if ltKy x.1 y.1 then x::y::r else y::insP x r
section
variable {β:Type}
theorem insP_len (x:Ky × β):∀l:List (Ky × β),(insP x l).length=l.length+1
 | []=>rfl
 | y::r=>by
  unfold insP
  split
  ·rfl
  ·rw [List.length_cons,insP_len x r,List.length_cons]
theorem insP_mem (x z:Ky × β):∀l:List (Ky × β),z∈insP x l↔z=x∨z∈l
 | []=>by simp [insP]
 | y::r=>by
  unfold insP
  split
  ·rw [List.mem_cons]
  ·rw [List.mem_cons,insP_mem x z r,List.mem_cons]
   constructor
   ·rintro (h|h|h)
    ·exact Or.inr (Or.inl h)
    ·exact Or.inl h
    ·exact Or.inr (Or.inr h)
   ·rintro (h|h|h)
    ·exact Or.inr (Or.inl h)
    ·exact Or.inl h
    ·exact Or.inr (Or.inr h)
def RiseP (l:List (Ky × β)):Prop:=l.Pairwise fun x y=>ltKy y.1 x.1=false
theorem lt_not {a b:Ky} (h:ltKy a b=true):ltKy b a=false:=by
 cases e:ltKy b a
 ·rfl
 ·have:=totK.tr _ _ _ h e
  rw [totK.irr] at this
  cases this
theorem not_lt {a b c:Ky} (h:ltKy b a=false) (k:ltKy c b=false):ltKy c a=false:=by
 cases e:ltKy c a
 ·rfl
 ·rcases totK.tot b a with h1|h1|h1
  ·rw [h] at h1;cases h1
  ·rw [h1,e] at k;cases k
  ·have:=totK.tr _ _ _ e h1
   rw [k] at this;cases this
theorem insP_rise (x:Ky × β):∀{l:List (Ky × β)},RiseP l→RiseP (insP x l)
 | [],_=>List.pairwise_cons.2 ⟨fun _ h=>by simp at h,List.Pairwise.nil⟩
 | y::r,h=>by
  obtain ⟨h1,h2⟩:=List.pairwise_cons.1 h
  unfold insP
  split
  ·next hx =>
   refine List.pairwise_cons.2 ⟨fun z hz=>?_,h⟩
   rcases List.mem_cons.1 hz with rfl|hz
   ·exact lt_not hx
   ·exact not_lt (lt_not hx) (h1 z hz)
  ·next hx =>
   refine List.pairwise_cons.2 ⟨fun z hz=>?_,insP_rise x h2⟩
   rcases (insP_mem x z r).1 hz with rfl|hz
   ·simpa using hx
   ·exact h1 z hz
def sortP (l:List (Ky × β)):List (Ky × β):=l.foldl (fun a x=>insP x a) []
theorem sortP_go (l:List (Ky × β)):∀a,RiseP a→RiseP (l.foldl (fun a x=>insP x a) a)∧(l.foldl (fun a x=>insP x a) a).length=a.length+l.length∧∀z,z∈l.foldl (fun a x=>insP x a) a↔z∈a∨z∈l:=by
 induction l with
 | nil=>exact fun a h=>⟨h,rfl,fun z=>by simp⟩
 | cons x l ih =>
  intro a h
  obtain ⟨h1,h2,h3⟩:=ih (insP x a) (insP_rise x h)
  refine ⟨h1,?_,fun z=>?_⟩
  ·rw [List.foldl_cons,h2,insP_len,List.length_cons];omega
  ·rw [List.foldl_cons,h3,insP_mem,List.mem_cons]
   constructor
   ·rintro ((h|h)|h)
    ·exact Or.inr (Or.inl h)
    ·exact Or.inl h
    ·exact Or.inr (Or.inr h)
   ·rintro (h|h|h)
    ·exact Or.inl (Or.inr h)
    ·exact Or.inl (Or.inl h)
    ·exact Or.inr h
theorem sortP_rise (l:List (Ky × β)):RiseP (sortP l):=(sortP_go l [] List.Pairwise.nil).1
theorem sortP_len (l:List (Ky × β)):(sortP l).length=l.length:=by
 have:=(sortP_go l [] List.Pairwise.nil).2.1
 simpa [sortP] using this
theorem sortP_mem (l:List (Ky × β)) (z:Ky × β):z∈sortP l↔z∈l:=by
 have:=(sortP_go l [] List.Pairwise.nil).2.2 z
 simpa [sortP] using this
theorem insP_filter (x:Ky × β) (k:Ky):∀{l:List (Ky × β)},RiseP l→(insP x l).filter (fun y=>decide (y.1=k))=l.filter (fun y=>decide (y.1=k))++[x].filter (fun y=>decide (y.1=k))
 | [],_=>by simp [insP]
 | y::r,h=>by
  obtain ⟨h1,h2⟩:=List.pairwise_cons.1 h
  unfold insP
  split
  ·next hx =>
   by_cases e:x.1=k
   ·have:∀z∈y::r,decide (z.1=k)=false:=fun z hz=>by
     refine decide_eq_false fun ez=>?_
     rw [←e] at ez
     rcases List.mem_cons.1 hz with rfl|hz
     ·rw [ez,totK.irr] at hx;cases hx
     ·have h3:=h1 z hz
      rw [ez,hx] at h3;cases h3
    rw [List.filter_cons,List.filter_eq_nil_iff.2 (fun z hz=>by rw [this z hz];simp),List.filter_cons,List.filter_nil,List.nil_append]
   ·have:decide (x.1=k)=false:=decide_eq_false e
    rw [List.filter_cons,this,List.filter_cons (x:=x),this]
    simp
  ·rw [List.filter_cons,insP_filter x k h2]
   conv=>rhs;rw [List.filter_cons]
   split<;>simp
theorem sortP_filter (l:List (Ky × β)) (k:Ky):(sortP l).filter (fun y=>decide (y.1=k))=l.filter (fun y=>decide (y.1=k)):=by
 suffices h:∀a,RiseP a→(l.foldl (fun a x=>insP x a) a).filter (fun y=>decide (y.1=k))=a.filter (fun y=>decide (y.1=k))++l.filter (fun y=>decide (y.1=k)) by
  have:=h [] List.Pairwise.nil
  simpa [sortP] using this
 induction l with
 | nil=>exact fun a _=>by simp
 | cons x l ih =>
  intro a ha
  rw [List.foldl_cons,ih _ (insP_rise x ha),insP_filter x k ha,List.append_assoc,←List.filter_append]
  rfl
theorem riseP_uniq:∀{l m:List (Ky × β)},RiseP l→RiseP m→(∀k,l.filter (fun y=>decide (y.1=k))=m.filter (fun y=>decide (y.1=k)))→l=m
 | [],[],_,_,_=>rfl
 | [],y::m,_,_,h=>by have:=h y.1;simp at this
 | x::l,[],_,_,h=>by have:=h x.1;simp at this
 | x::l,y::m,hl,hm,h=>by
  obtain ⟨l1,l2⟩:=List.pairwise_cons.1 hl
  obtain ⟨m1,m2⟩:=List.pairwise_cons.1 hm
  have mem:∀{a b:List (Ky × β)},(∀k,a.filter (fun y=>decide (y.1=k))=b.filter (fun y=>decide (y.1=k)))→∀z∈a,z∈b:=fun {a b} h z hz=>by
   have h1:z∈a.filter (fun y=>decide (y.1=z.1)):=List.mem_filter.2 ⟨hz,by simp⟩
   rw [h z.1] at h1
   exact (List.mem_filter.1 h1).1
  have ek:x.1=y.1:=by
   have hx:=mem h x (by simp)
   have hy:=mem (fun k=>(h k).symm) y (by simp)
   rcases totK.tot x.1 y.1 with e|e|e
   ·rcases List.mem_cons.1 hx with rfl|hx
    ·rfl
    ·have:=m1 x hx
     rw [e] at this;cases this
   ·exact e
   ·rcases List.mem_cons.1 hy with rfl|hy
    ·rfl
    ·have:=l1 y hy
     rw [e] at this;cases this
  have h0:=h x.1
  rw [List.filter_cons,if_pos (by simp),List.filter_cons,if_pos (by simp [ek])] at h0
  injection h0 with e0 _
  subst e0
  congr 1
  refine riseP_uniq l2 m2 fun k=>?_
  have:=h k
  rw [List.filter_cons,List.filter_cons] at this
  split at this
  ·injection this
  ·exact this
theorem sortP_is {l m:List (Ky × β)} (hm:RiseP m) (h:∀k,m.filter (fun y=>decide (y.1=k))=l.filter (fun y=>decide (y.1=k))):m=sortP l :=
 riseP_uniq hm (sortP_rise l) fun k=>(h k).trans (sortP_filter l k).symm
end
abbrev Wr:=Option (List Fld)
abbrev RowW:=Ky × Wr
def getW:List RowW→Ky→Option Wr
 | [],_=>none
 | y::r,k=>if y.1=k then some y.2 else getW r k
def delW (L:List RowW) (k:Ky):List RowW:=L.filter fun y=>!decide (y.1=k)
def layW (L:List RowW) (k:Ky) (e:Wr):List RowW:=insP (k,e) (delW L k)
structure OkW (L:List RowW):Prop where
 rise:L.Pairwise fun x y=>ltKy x.1 y.1=true
 key:∀y∈L,keyB y.1.1 y.1.2=true
 may:∀y∈L,∀v,y.2=some v→mayB v=true
theorem okW_nil:OkW []:=⟨List.Pairwise.nil,fun _ h=>by simp at h,fun _ h=>by simp at h⟩
theorem getW_none {k:Ky}:∀{L:List RowW},getW L k=none↔∀y∈L,y.1≠k
 | []=>by simp [getW]
 | y::r=>by
  unfold getW
  split
  ·next h=>simp [h]
  ·next h=>simp [h,getW_none (L:=r)]
theorem getW_mem {k:Ky} {e:Wr}:∀{L:List RowW},getW L k=some e→(k,e)∈L
 | [],h=>by simp [getW] at h
 | y::r,h=>by
  unfold getW at h
  split at h
  ·next hy =>
   injection h with h
   subst h hy
   simp
  ·exact List.mem_cons_of_mem _ (getW_mem h)
theorem getW_of {y:RowW}:∀{L:List RowW},(L.Pairwise fun x y=>ltKy x.1 y.1=true)→y∈L→getW L y.1=some y.2
 | [],_,h=>by simp at h
 | z::r,hp,h=>by
  obtain ⟨h1,h2⟩:=List.pairwise_cons.1 hp
  unfold getW
  rcases List.mem_cons.1 h with rfl|h
  ·rw [if_pos rfl]
  ·rw [if_neg,getW_of h2 h]
   intro e
   have:=h1 y h
   rw [e,totK.irr] at this
   cases this
theorem getW_del (L:List RowW) (k j:Ky):getW (delW L k) j=if j=k then none else getW L j:=by
 induction L with
 | nil=>simp [delW,getW]
 | cons y r ih =>
  unfold delW at ih ⊢
  rw [List.filter_cons]
  by_cases h:y.1=k
  ·rw [decide_eq_true h]
   simp only [Bool.not_true,Bool.false_eq_true,if_false]
   rw [ih]
   unfold getW
   by_cases hj:j=k
   ·rw [if_pos hj,if_pos hj]
   ·rw [if_neg hj,if_neg hj,if_neg (fun e=>hj (e.symm.trans h))]
    cases r<;>rfl
  ·rw [decide_eq_false h]
   simp only [Bool.not_false,if_true]
   unfold getW
   by_cases hj:y.1=j
   ·rw [if_pos hj,if_pos hj,if_neg (fun e=>h (hj.trans e))]
   ·rw [if_neg hj,if_neg hj,ih]
theorem getW_ins {x:RowW} (j:Ky):∀{L:List RowW},(∀y∈L,y.1≠x.1)→getW (insP x L) j=if j=x.1 then some x.2 else getW L j
 | [],_=>by
  unfold insP getW
  by_cases h:x.1=j
  ·rw [if_pos h,if_pos h.symm]
  ·rw [if_neg h,if_neg (fun e=>h e.symm)];rfl
 | y::r,h=>by
  unfold insP
  split
  ·conv=>lhs;unfold getW
   by_cases h1:x.1=j
   ·rw [if_pos h1,if_pos h1.symm]
   ·rw [if_neg h1,if_neg (fun e=>h1 e.symm)]
  ·unfold getW
   rw [getW_ins j (fun z hz=>h z (List.mem_cons_of_mem _ hz))]
   by_cases h1:y.1=j
   ·rw [if_pos h1,if_pos h1,if_neg (fun e=>h y (by simp) (h1.trans e))]
   ·rw [if_neg h1,if_neg h1]
theorem delW_ne {L:List RowW} {k:Ky}:∀y∈delW L k,y.1≠k:=fun y hy=>by
 have:=(List.mem_filter.1 hy).2
 simpa using this
theorem getW_lay (L:List RowW) (k j:Ky) (e:Wr):getW (layW L k e) j=if j=k then some e else getW L j:=by
 unfold layW
 rw [getW_ins j (x:=(k,e)) delW_ne,getW_del]
 by_cases h:j=k
 ·rw [if_pos h,if_pos h]
 ·rw [if_neg h,if_neg h,if_neg h]
theorem rise_ins {x:RowW}:∀{L:List RowW},(L.Pairwise fun x y=>ltKy x.1 y.1=true)→(∀y∈L,y.1≠x.1)→(insP x L).Pairwise fun x y=>ltKy x.1 y.1=true
 | [],_,_=>List.pairwise_cons.2 ⟨fun _ h=>by simp at h,List.Pairwise.nil⟩
 | y::r,h,hn=>by
  obtain ⟨h1,h2⟩:=List.pairwise_cons.1 h
  unfold insP
  split
  ·next hx =>
   refine List.pairwise_cons.2 ⟨fun z hz=>?_,h⟩
   rcases List.mem_cons.1 hz with rfl|hz
   ·exact hx
   ·exact totK.tr _ _ _ hx (h1 z hz)
  ·next hx =>
   refine List.pairwise_cons.2 ⟨fun z hz=>?_,rise_ins h2 fun z hz=>hn z (List.mem_cons_of_mem _ hz)⟩
   rcases (insP_mem x z r).1 hz with rfl|hz
   ·rcases totK.tot y.1 z.1 with h3|h3|h3
    ·exact h3
    ·exact absurd h3 (hn y (by simp))
    ·exact absurd h3 hx
   ·exact h1 z hz
theorem okW_del {L:List RowW} (h:OkW L) (k:Ky):OkW (delW L k) :=
 ⟨h.rise.sublist List.filter_sublist,fun y hy=>h.key y (List.mem_filter.1 hy).1,fun y hy=>h.may y (List.mem_filter.1 hy).1⟩
theorem okW_lay {L:List RowW} (h:OkW L) (k:Ky) (e:Wr) (hk:keyB k.1 k.2=true) (he:∀v,e=some v→mayB v=true):OkW (layW L k e):=by
 have h1:=okW_del h k
 refine ⟨rise_ins h1.rise delW_ne,fun y hy=>?_,fun y hy v hv=>?_⟩
 ·rcases (insP_mem _ y _).1 hy with rfl|hy
  ·exact hk
  ·exact h1.key y hy
 ·rcases (insP_mem _ y _).1 hy with rfl|hy
  ·exact he v hv
  ·exact h1.may y hy v hv
theorem delW_len (L:List RowW) (k:Ky):(delW L k).length≤L.length:=List.length_filter_le _ _
theorem layW_len (L:List RowW) (k:Ky) (e:Wr):(layW L k e).length≤L.length+1:=by
 unfold layW
 rw [insP_len]
 have:=delW_len L k
 omega
def codePW (k:Ky) (v:List Fld):Int:=if keyB k.1 k.2=false then 2 else if mayB v=false then 3 else 0
def putW (L:List RowW) (k:Ky) (v:List Fld):List RowW:=if codePW k v=0 then layW L k (some v) else L
def liveW (o:Option Wr):Bool:=match o with|some (some _)=>true|_=>false
def valW (o:Option Wr):List Fld:=match o with|some (some v)=>v|_=>[]
theorem code_key {k:Ky} {v:List Fld} (h:codePW k v=0):keyB k.1 k.2=true∧mayB v=true:=by
 unfold codePW at h
 split at h
 ·cases h
 ·next h1 =>
  split at h
  ·cases h
  ·next h2=>exact ⟨by simpa using h1,by simpa using h2⟩
theorem okW_put {L:List RowW} (h:OkW L) (k:Ky) (v:List Fld):OkW (putW L k v):=by
 unfold putW
 split
 ·next hc=>exact okW_lay h k _ (code_key hc).1 fun u hu=>by injection hu with hu;subst hu;exact (code_key hc).2
 ·exact h
theorem putW_len (L:List RowW) (k:Ky) (v:List Fld):(putW L k v).length≤L.length+1:=by
 unfold putW
 split
 ·exact layW_len _ _ _
 ·omega
theorem getW_put (L:List RowW) (k j:Ky) (v:List Fld):getW (putW L k v) j=if codePW k v=0∧j=k then some (some v) else getW L j:=by
 unfold putW
 by_cases hc:codePW k v=0
 ·rw [if_pos hc,getW_lay]
  by_cases hj:j=k
  ·rw [if_pos hj,if_pos ⟨hc,hj⟩]
  ·rw [if_neg hj,if_neg fun h=>hj h.2]
 ·rw [if_neg hc,if_neg fun h=>hc h.1]
def keysW (L:List RowW):List Ky:=L.map (·.1)
def freeW (L:List RowW) (fs:List (Ky × Vr)):List (Ky × Vr):=fs.filter fun f=>(getW L f.1).isNone
def hitW (typ:ByteArray) (m:List Fld→Bool) (y:RowW):Option (Ky × Vr) :=
 match y.2 with
 | some v=>if y.1.1=typ∧m v=true then some (y.1,⟨0,0,0,true,v⟩) else none
 | none=>none
def hitsW (L:List RowW) (typ:ByteArray) (m:List Fld→Bool):List (Ky × Vr):=L.filterMap (hitW typ m)
def overW (L:List RowW) (fs:List (Ky × Vr)) (typ:ByteArray) (m:List Fld→Bool):List (Ky × Vr):=sortP (freeW L fs++hitsW L typ m)
theorem overW_rise (L:List RowW) (fs:List (Ky × Vr)) (typ:ByteArray) (m:List Fld→Bool):RiseP (overW L fs typ m):=sortP_rise _
theorem overW_len (L:List RowW) (fs:List (Ky × Vr)) (typ:ByteArray) (m:List Fld→Bool):(overW L fs typ m).length=(freeW L fs).length+(hitsW L typ m).length:=by
 unfold overW
 rw [sortP_len,List.length_append]
theorem hitsW_mem {L:List RowW} {typ:ByteArray} {m:List Fld→Bool} {f:Ky × Vr} (h:f∈hitsW L typ m):∃v,(f.1,some v)∈L∧f.1.1=typ∧m v=true∧f.2=⟨0,0,0,true,v⟩:=by
 obtain ⟨y,hy,hh⟩:=List.mem_filterMap.1 h
 unfold hitW at hh
 split at hh
 ·next v hv =>
  split at hh
  ·next hc =>
   injection hh with hh
   subst hh
   exact ⟨v,by rw [←hv];exact hy,hc.1,hc.2,rfl⟩
  ·cases hh
 ·cases hh
end
section
open Go.RowKit
abbrev Sn:=List (Option Int)
def atQ (os:Sn) (id:Int):Option Int:=if 1≤id then (os[(id-1).toNat]?).join else none
def closeQ (os:Sn) (id:Int):Sn:=if 1≤id then os.set (id-1).toNat none else os
def countQ (os:Sn):Nat:=os.countP Option.isSome
def minQ (m:Int) (o:Option Int):Int:=match o with|some s=>if s<m then s else m|none=>m
def leastQ (os:Sn) (now:Int):Int:=os.foldl minQ now
def lowQ (os:Sn) (f:Int):Bool:=os.any fun o=>match o with|some s=>decide (s<f)|none=>false
def openQ (os:Sn) (fl x:Int):(Int × Int) × Sn:=if x<fl then ((0,8),os) else (((os.length:Int)+1,0),os++[some x])
def raiseQ (os:Sn) (fl f:Int):Int × Int:=if f<fl then (8,fl) else if lowQ os f then (1,fl) else (0,f)
theorem atQ_le {os:Sn} {id:Int} (h:(os.length:Int)<id):atQ os id=none:=by
 unfold atQ
 split
 ·rw [List.getElem?_eq_none (by omega)];rfl
 ·rfl
theorem atQ_in {os:Sn} {i:Nat} (h:i<os.length):atQ os ((i:Int)+1)=os[i]:=by
 unfold atQ
 rw [if_pos (by omega),show ((i:Int)+1-1).toNat=i by omega,List.getElem?_eq_getElem h]
 rfl
theorem atQ_open (os:Sn) (x id:Int):atQ (os++[some x]) id=if id=(os.length:Int)+1 then some x else atQ os id:=by
 unfold atQ
 by_cases h1:1≤id
 ·rw [if_pos h1,if_pos h1]
  by_cases e:id=(os.length:Int)+1
  ·rw [if_pos e,e,show ((os.length:Int)+1-1).toNat=os.length by omega]
   simp
  ·rw [if_neg e]
   rcases Nat.lt_or_ge (id-1).toNat os.length with h|h
   ·rw [List.getElem?_append_left h]
   ·rw [List.getElem?_append_right h,List.getElem?_eq_none (l:=os) h,List.getElem?_eq_none (by simp;omega)]
 ·rw [if_neg h1,if_neg h1,if_neg (by omega)]
theorem atQ_close (os:Sn) (x id:Int):atQ (closeQ os x) id=if id=x then none else atQ os id:=by
 unfold closeQ
 by_cases hx:1≤x
 ·rw [if_pos hx]
  unfold atQ
  by_cases h1:1≤id
  ·rw [if_pos h1,if_pos h1,List.getElem?_set]
   by_cases e:id=x
   ·rw [if_pos e,if_pos (by omega)]
    split<;>rfl
   ·rw [if_neg e,if_neg (by omega)]
  ·rw [if_neg h1,if_neg h1]
   split<;>rfl
 ·rw [if_neg hx]
  by_cases e:id=x
  ·rw [if_pos e,e]
   unfold atQ
   rw [if_neg hx]
  ·rw [if_neg e]
theorem closeQ_len (os:Sn) (x:Int):(closeQ os x).length=os.length:=by
 unfold closeQ
 split<;>simp
theorem closeQ_same {os:Sn} {x:Int} (h:atQ os x=none):closeQ os x=os:=by
 unfold closeQ
 unfold atQ at h
 by_cases hx:1≤x
 ·rw [if_pos hx] at h ⊢
  rcases Nat.lt_or_ge (x-1).toNat os.length with k|k
  ·rw [List.getElem?_eq_getElem k] at h
   have h2:os[(x-1).toNat]=none:=h
   apply List.ext_getElem?
   intro j
   rw [List.getElem?_set]
   split
   ·next e=>subst e;rw [List.getElem?_eq_getElem k,h2]
   ·rfl
  ·exact List.set_eq_of_length_le k
 ·rw [if_neg hx]
theorem minQ_some (m s:Int):minQ m (some s)=if s<m then s else m:=rfl
theorem least_cons (o:Option Int) (os:Sn) (now:Int):leastQ (o::os) now=leastQ os (minQ now o):=rfl
theorem minQ_le (m:Int) (o:Option Int):minQ m o≤m:=by
 cases o with
 | none=>exact Int.le_refl _
 | some s=>rw [minQ_some];split<;>omega
theorem least_le (os:Sn):∀now,leastQ os now≤now:=by
 induction os with
 | nil=>intro now;exact Int.le_refl _
 | cons o os ih=>intro now;rw [least_cons];exact Int.le_trans (ih _) (minQ_le _ _)
theorem least_open {os:Sn} {s:Int} (h:some s∈os) (now:Int):leastQ os now≤s:=by
 induction os generalizing now with
 | nil=>cases h
 | cons o os ih =>
  rw [least_cons]
  rcases List.mem_cons.1 h with e|h
  ·subst e
   refine Int.le_trans (least_le _ _) ?_
   rw [minQ_some]
   split<;>omega
  ·exact ih h _
theorem least_is (os:Sn):∀now,leastQ os now=now∨some (leastQ os now)∈os:=by
 induction os with
 | nil=>intro now;exact Or.inl rfl
 | cons o os ih =>
  intro now
  rw [least_cons]
  rcases ih (minQ now o) with h|h
  ·rw [h]
   cases o with
   | none=>exact Or.inl rfl
   | some s =>
    rw [minQ_some]
    split
    ·right;simp
    ·exact Or.inl rfl
  ·exact Or.inr (List.mem_cons_of_mem _ h)
theorem low_iff (os:Sn) (f:Int):lowQ os f=true↔∃s,some s∈os∧s<f:=by
 unfold lowQ
 rw [List.any_eq_true]
 constructor
 ·rintro ⟨o,ho,h⟩
  cases o with
  | none=>cases h
  | some s=>exact ⟨s,ho,of_decide_eq_true h⟩
 ·rintro ⟨s,hs,h⟩
  exact ⟨some s,hs,decide_eq_true h⟩
theorem low_least (os:Sn) (f:Int):lowQ os f=decide (leastQ os f<f):=by
 rw [Bool.eq_iff_iff,low_iff,decide_eq_true_iff]
 constructor
 ·rintro ⟨s,hs,h⟩
  have:=least_open hs f
  omega
 ·intro h
  rcases least_is os f with e|e
  ·omega
  ·exact ⟨_,e,h⟩
theorem count_open (os:Sn) (x:Int):countQ (os++[some x])=countQ os+1:=by
 unfold countQ
 rw [List.countP_append]
 rfl
theorem countQ_set:∀(os:Sn) (i:Nat) (h:i<os.length),countQ (os.set i none)+(if (os[i]).isSome then 1 else 0)=countQ os
 | o::os,0,_=>by
  unfold countQ
  rw [List.set_cons_zero,List.countP_cons,List.countP_cons]
  cases o<;>simp
 | o::os,i+1,h=>by
  have:=countQ_set os i (by simpa using h)
  unfold countQ at this ⊢
  rw [List.set_cons_succ,List.countP_cons,List.countP_cons,List.getElem_cons_succ]
  omega
theorem count_close (os:Sn) (x:Int):countQ (closeQ os x)+(if (atQ os x).isSome then 1 else 0)=countQ os:=by
 cases hq:atQ os x with
 | none=>rw [closeQ_same hq];simp
 | some s =>
  have h1:1≤x:=Classical.byContradiction fun h=>by unfold atQ at hq;rw [if_neg h] at hq;cases hq
  have h2:(x-1).toNat<os.length:=Classical.byContradiction fun h=>by
   unfold atQ at hq
   rw [if_pos h1,List.getElem?_eq_none (by omega)] at hq
   cases hq
  have h3:os[(x-1).toNat]=some s:=by
   unfold atQ at hq
   rw [if_pos h1,List.getElem?_eq_getElem h2] at hq
   exact hq
  have:=countQ_set os (x-1).toNat h2
  rw [h3] at this
  unfold closeQ
  rw [if_pos h1]
  exact this
def OkQ (os:Sn) (fl:Int):Prop:=(0≤fl∧fl≤18446744073709551615)∧∀s,some s∈os→fl≤s∧s≤18446744073709551615
theorem least_ok {os:Sn} {fl now:Int} (h:OkQ os fl) (hn:fl≤now):fl≤leastQ os now:=by
 rcases least_is os now with e|e
 ·omega
 ·exact (h.2 _ e).1
theorem raise_least {os:Sn} {fl now:Int}:raiseQ os fl (leastQ os now)=if leastQ os now<fl then (8,fl) else (0,leastQ os now):=by
 unfold raiseQ
 split
 ·rfl
 ·rw [if_neg]
  intro h
  obtain ⟨s,hs,k⟩:=(low_iff _ _).1 h
  have:=least_open hs now
  omega
end
section
structure Tx where
 snap:Int
 ended:Bool
 marks:Mk
 wr:List RowW
 deriving Inhabited
structure Sv where
 vers:Int
 D:List RowD
 last:Int
 tick:Int
 floor:Int
 tk:Tk
 txs:List Tx
def topS:Int:=18446744073709551615
def openS (S:Sv):Sn:=S.txs.map fun x=>if x.ended then none else some x.snap
def leastS (S:Sv):Int:=leastQ (openS S) S.last
def setS (S:Sv) (i:Nat) (x:Tx):Sv:={ S with txs:=S.txs.set i x }
def rightS (vers most tries:Int):Bool:=decide (1≤vers)&&decide (vers≤4096)&&decide (0≤most)&&decide (most≤64)&&decide (1≤tries)&&decide (tries≤8)
def newS (vers most first:Int):Sv:=⟨vers,[],first,0,0,newT most,[]⟩
def freshX (s:Int):Tx:=⟨s,false,([],[]),[]⟩
def beginS (S:Sv):Sv:={ S with txs:=S.txs++[freshX S.last] }
def vacS (S:Sv):Sv:={ S with floor:=leastS S,D:=pruneD S.D (leastS S) }
def oldS (D:List RowD) (s:Int) (k:Ky):Option Vr:=atV (ofD D k) s
def isS (D:List RowD) (x:Tx) (k:Ky):Option Vr:=match getW x.wr k with
 | none=>oldS D x.snap k
 | some e=>some ⟨((oldS D x.snap k).getD zeroV).num+1,0,0,liveW (some e),valW (some e)⟩
def keysS (D:List RowD) (x:Tx) (typ:ByteArray):List Ky:=((keysW x.wr).filter fun k=>decide (k.1=typ)).foldl (fun acc k=>insR ltKy k acc) (keysD D typ)
def hereS (D:List RowD) (x:Tx) (P:List Fld→Bool) (k:Ky):Option Fnd:=match isS D x k with
 | some v=>if v.live&&P v.val then some (k,v) else none
 | none=>none
def scanS (D:List RowD) (x:Tx) (typ:ByteArray) (P:List Fld→Bool):List Fnd:=(keysS D x typ).filterMap (hereS D x P)
def chgS (D:List RowD) (s:Int) (y:RowW):Ch:=⟨y.1,((oldS D s y.1).getD zeroV).live,((oldS D s y.1).getD zeroV).val,liveW (some y.2),valW (some y.2)⟩
def changesS (D:List RowD) (x:Tx):List Ch:=if x.ended then [] else x.wr.map (chgS D x.snap)
def tagK (x:Tx) (k:Ky):Tx:={ x with marks:=keyM x.marks k }
def tagR (x:Tx) (typ:ByteArray) (p:List Tm):Tx:={ x with marks:=rangeM x.marks (typ,p) }
def readS (D:List RowD) (x:Tx) (k:Ky):(Option Vr × Int) × Tx:=if x.ended then ((none,12),x) else if keyB k.1 k.2=false then ((none,2),x) else ((isS D x k,if (isS D x k).isSome then 0 else 6),tagK x k)
def scansS (D:List RowD) (x:Tx) (typ:ByteArray) (p:List Tm):(List Fnd × Int) × Tx:=if x.ended then (([],12),x) else if mayM p≠0 then (([],mayM p),x) else ((scanS D x typ (matchM (sortM p)),0),tagR x typ (sortM p))
def writeS (x:Tx) (k:Ky) (v:List Fld):Int × Tx:=if x.ended then (12,x) else (codePW k v,{ x with wr:=putW x.wr k v })
def putAll (D:List RowD) (ch:List Ch) (n tick:Int):List RowD:=ch.foldl (fun D c=>putD D c.key n tick c.il c.is) D
def lateS (D:List RowD) (s:Int) (c:Ch):Bool:=decide (s<(lastV (ofD D c.key)).stamp)
def doneS (S:Sv) (i:Nat) (x:Tx) (ch:List Ch) (out:Bool):Int × Sv :=
 let S1:=setS S i { x with ended:=true }
 let S2:=if ch=[] then S1 else { S1 with last:=S.last+1,D:=putAll S.D ch (S.last+1) S.tick }
 (if ch=[] then 0 else S.last+1,if ch=[]∧x.marks=([],[]) then S2 else { S2 with tk:=dropT (addT S2.tk ⟨x.snap,S2.last,out,x.marks,ch⟩).2 (leastS S2) })
def commitS (S:Sv) (i:Nat) (x:Tx):(Int × Int) × Sv :=
 if x.ended then ((0,12),S)
 else if (changesS S.D x).any (lateS S.D x.snap) then ((0,11),setS S i { x with ended:=true })
 else if (checkT S.tk x.snap x.marks (changesS S.D x)).2≠0 then ((0,11),setS S i { x with ended:=true })
 else if changesS S.D x≠[]∧S.vers<(countD S.D:Int)+((changesS S.D x).length:Int) then ((0,9),setS S i { x with ended:=true })
 else if changesS S.D x≠[]∧S.last=topS then ((0,10),setS S i { x with ended:=true })
 else (((doneS S i x (changesS S.D x) (checkT S.tk x.snap x.marks (changesS S.D x)).1).1,0),(doneS S i x (changesS S.D x) (checkT S.tk x.snap x.marks (changesS S.D x)).1).2)
end
end Go.Proofs.YtmhlcnmfbolgdaaGreat
