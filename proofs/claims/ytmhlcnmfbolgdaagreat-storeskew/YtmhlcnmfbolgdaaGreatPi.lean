/-
  Texts of this claim, one behind the other: Vpk Vpl Vp8 Vpm Vpn Vpo Vpp Vpr Vps Vov Vob.
-/
import Derived.Test.YtmhlcnmfbolgdaaGreatPh
namespace Go.Proofs.YtmhlcnmfbolgdaaGreat
section
open Go.RowKit
structure PB (n0:Nat) (Q:Nat→Part) (W:World) (c:Nat→Nat):Prop where
 good:∀p,Good n0 (Q p)
 part:∀p,Has (Q p) W c p
 out:∀k,W.heap.size≤k→c k=0
def addQ (Q:Nat→Part) (p:Nat) (R:Part):Nat→Part:=fun q=>if q=p then R else Q q
theorem PB.on {n0:Nat} {Q:Nat→Part} {W w':World} {c:Nat→Nat} (h:PB n0 Q W c) (hb:Below W.heap.size W w'):PB n0 Q w' c :=
 ⟨h.good,fun p=>(h.part p).fr (h.good p) (Fr.of_below (P:=fun _=>False) hb) (fun _ _=>rfl) fun _ _ k=>k.elim,fun k hk=>h.out k (Nat.le_trans hb.size hk)⟩
theorem PB.add {n0:Nat} {Q:Nat→Part} {W w':World} {c:Nat→Nat} (h:PB n0 Q W c) (hb:Below W.heap.size W w') (p:Nat) {R:Part} (hg:Good n0 R) {B:Nat→Prop} (hR:R w' B) (hB:∀k,B k→W.heap.size≤k):∃c',PB n0 (addQ Q p R) w' c'∧∀k,k<W.heap.size→c' k=c k:=by
 refine ⟨lab W B c p,⟨fun q=>?_,fun q=>?_,fun k hk=>lab_out (Nat.le_trans hb.size hk) fun hk'=>by have:=(hg.blk hR k hk').2;omega⟩,fun k hk=>lab_old hk⟩
 ·unfold addQ
  split
  ·exact hg
  ·exact h.good q
 ·unfold addQ
  split
  ·next e =>
   subst e
   exact ⟨B,hR,fun k hk=>lab_new (hB k hk) hk⟩
  ·exact (h.part q).fr (h.good q) (Fr.of_below (P:=fun _=>False) hb) (fun k hk=>lab_old hk) fun _ _ k=>k.elim
theorem pb_nil (n0:Nat) (W:World):PB n0 (fun _=>noneP) W (fun _=>0):=⟨fun _=>good_none n0,fun _=>has_none _ _ _,fun _ _=>rfl⟩
def PBz (n0:Nat) (Q:Nat→Part) (W:World) (Z:Nat→Prop):Prop:=∃c,PB n0 Q W c∧∀k,Z k→c k=0
theorem PBz.add {n0:Nat} {Q:Nat→Part} {W w':World} {Z:Nat→Prop} (h:PBz n0 Q W Z) (hZ:∀k,Z k→k<W.heap.size) (hb:Below W.heap.size W w') (p:Nat) {R:Part} (hg:Good n0 R) {B:Nat→Prop} (hR:R w' B) (hB:∀k,B k→W.heap.size≤k):PBz n0 (addQ Q p R) w' Z:=by
 obtain ⟨c,q,hz⟩:=h
 obtain ⟨c',q1,q2⟩:=q.add hb p hg hR hB
 exact ⟨c',q1,fun k hk=>(q2 k (hZ k hk)).trans (hz k hk)⟩
theorem PBz.box {n0:Nat} {Q:Nat→Part} {W WZ:World} {M:Nat} (h:PBz n0 Q W (fun k=>k=M)) (f:Fr (fun b=>b=M) W WZ) (h0:∀p,p=0→Q p=noneP):∃c,PB n0 Q WZ c:=by
 obtain ⟨c,q,hz⟩:=h
 refine ⟨c,q.good,fun p=>?_,fun k hk=>q.out k (Nat.le_trans f.size hk)⟩
 by_cases e:p=0
 ·rw [h0 p e]
  exact has_none _ _ _
 ·exact (q.part p).fr (q.good p) f (fun _ _=>rfl) fun k _ hk=>by rw [hz k hk];exact fun e'=>e e'.symm
def swithin (n a b:Int):Bool:=decide (a≤n)&&decide (n≤b)
theorem swithin_any (n a b:Int) (W:World):Calls Tryz.prog 52 #[.int .i64 n,.int .i64 a,.int .i64 b] W fun e w'=>e=.returned (.bool (swithin n a b))∧w'=W:=by
 unfold swithin
 by_cases h1:a≤n
 ·by_cases h2:n≤b
  ·rw [decide_eq_true h1,decide_eq_true h2]
   go_enter Tryz.func52,Tryz.ntmps52
   go_wp2_with fail
   go_ret
   exact ⟨rfl,rfl⟩
  ·rw [decide_eq_true h1,decide_eq_false h2]
   go_enter Tryz.func52,Tryz.ntmps52
   go_wp2_with fail
   go_ret
   exact ⟨rfl,rfl⟩
 ·rw [decide_eq_false h1,Bool.false_and]
  go_enter Tryz.func52,Tryz.ntmps52
  go_wp2_with fail
  go_ret
  exact ⟨rfl,rfl⟩
def newQ (n0 hd hs hc hq ht:Nat) (most first:Int):Nat→Part:=addQ (addQ (addQ (addQ (addQ (fun _=>noneP) 2 (dirP n0 hd 0 [])) 5 (objP n0 hs [.int .u64 first] 209)) 6 (objP n0 hc [.int .i64 0] 214)) 4 (snpP n0 hq [] 0)) 3 (trkP n0 ht (newT most))
def NewPost (W:World) (vers tracked tries first:Int) (e:Ending) (w':World):Prop :=
 (rightS vers tracked tries=false∧e=.returned (.tuple #[.pointer none,.int .i64 1])∧Below W.heap.size W w') ∨
 (rightS vers tracked tries=true∧∃h c,e=.returned (.tuple #[.pointer (some ⟨h,0,none⟩),.int .i64 0])∧W.heap.size≤h∧StoP W.heap.size 0 w' h [] (newS vers tracked first) c∧Below W.heap.size W w')
theorem PB.store {n0:Nat} {W w':World} {c:Nat→Nat} {hd hs hc hq ht:Nat} {vers most first:Int} (h:PB n0 (newQ n0 hd hs hc hq ht most first) W c) (hb:Below W.heap.size W w') (hn:n0≤W.heap.size) (ho:w'.heap[W.heap.size]? = some (.cells #[.pointer (some ⟨hd,0,none⟩),.pointer (some ⟨hs,0,none⟩),.pointer (some ⟨hc,0,none⟩),.pointer (some ⟨hq,0,none⟩),.pointer (some ⟨ht,0,none⟩),.int .i64 vers] 146 (0,0))) (hv0:0≤vers) (hv:vers≤4096) (h0:0≤first) (h1:first≤topS):∃c',StoP n0 0 w' W.heap.size [] (newS vers most first) c':=by
 obtain ⟨c',q,_⟩:=h.add hb 1 (R:=objP n0 W.heap.size [.pointer (some ⟨hd,0,none⟩),.pointer (some ⟨hs,0,none⟩),.pointer (some ⟨hc,0,none⟩),.pointer (some ⟨hq,0,none⟩),.pointer (some ⟨ht,0,none⟩),.int .i64 vers] 146) (good_obj _ _ _ _) (B:=fun k=>k=W.heap.size) ⟨ho,hn,fun _=>Iff.rfl⟩ (fun k hk=>by rw [hk];exact Nat.le_refl _)
 refine ⟨c',⟨W.heap.size,vers,hd,hs,hc,hq,ht,0,[],first,0,0,[],newT most,[]⟩,⟨fun p=>?_,q.out⟩,⟨Nat.zero_le _,Nat.zero_le _,(fun x hx=>by cases hx),(fun i hi=>by simp at hi),rfl,okS_new hv0 h0 h1,hv⟩,rfl,rfl,rfl⟩
 have e:partS n0 ⟨W.heap.size,vers,hd,hs,hc,hq,ht,0,[],first,0,0,[],newT most,[]⟩ p=addQ (newQ n0 hd hs hc hq ht most first) 1 (objP n0 W.heap.size [.pointer (some ⟨hd,0,none⟩),.pointer (some ⟨hs,0,none⟩),.pointer (some ⟨hc,0,none⟩),.pointer (some ⟨hq,0,none⟩),.pointer (some ⟨ht,0,none⟩),.int .i64 vers] 146) p:=by
  unfold partS newQ addQ
  by_cases e1:p=1
  ·simp [e1];rfl
  ·by_cases e2:p=2
   ·simp [e2]
   ·by_cases e3:p=3
    ·simp [e3]
    ·by_cases e4:p=4
     ·simp [e4]
     ·by_cases e5:p=5
      ·simp [e5]
      ·by_cases e6:p=6
       ·simp [e6]
       ·simp [e1,e2,e3,e4,e5,e6]
 rw [e]
 exact q.part p
set_option linter.unusedSimpArgs false in
set_option maxHeartbeats 1500000 in
set_option maxRecDepth 100000 in
theorem snewS_any (W:World) (ve tr ti fi:Int) (h0:0≤fi) (h1:fi≤topS) :
  Calls Tryz.prog 14 #[.agg #[.int .i64 ve,.int .i64 tr,.int .i64 ti,.int .u64 fi]] W fun e w'=>NewPost W ve tr ti fi e w':=by
 obtain ⟨V,hV⟩:∃V,W.alloc (.cells #[.int .i64 ve,.int .i64 tr,.int .i64 ti,.int .u64 fi] 24)=V:=⟨_,rfl⟩
 obtain ⟨Q,hQ⟩:∃Q,W.heap.size=Q:=⟨_,rfl⟩
 have hv1:V.heap[Q]? = some (.cells #[.int .i64 ve,.int .i64 tr,.int .i64 ti,.int .u64 fi] 24 (0,0)):=by rw [←hV,←hQ];exact heap_alloc_new W _
 have hb0:Below W.heap.size W V:=by rw [←hV];exact (Below.refl _ _).alloc (Nat.le_refl _) _
 have hQV:Q<V.heap.size:=(Array.getElem?_eq_some_iff.1 hv1).1
 have HS:Hid (∀w',Below V.heap.size V w'→w'.cell? ⟨Q,0,none⟩=some (.int .i64 ve)∧w'.cell? ⟨Q,1,none⟩=some (.int .i64 tr)∧w'.cell? ⟨Q,2,none⟩=some (.int .i64 ti)∧w'.cell? ⟨Q,3,none⟩=some (.int .u64 fi)):=fun w' hb=>by
  have q:=(hb.block Q hQV).trans hv1
  refine ⟨?_,?_,?_,?_⟩<;>rw [Lib.cell_of_heap q]<;>rfl
 obtain ⟨c0,c1,c2,c3⟩:=HS.out V (Below.refl _ _)
 have HW1:=hid (swithin_any ve 1 4096 V)
 have HW2:=hid (swithin_any tr 0 64 V)
 have HW3:=hid (swithin_any ti 1 8 V)
 have hrt:rightS ve tr ti=(swithin ve 1 4096&&swithin tr 0 64&&swithin ti 1 8):=by
  unfold rightS swithin
  simp [Bool.and_assoc]
 have HNO:Hid (rightS ve tr ti=false→NewPost W ve tr ti fi (.returned (.tuple #[.pointer none,.int .i64 1])) V):=fun h=>Or.inl ⟨h,rfl,hb0⟩
 have HV:=hid hb0
 obtain ⟨N,hN⟩:∃N,W.heap.size=N:=⟨_,rfl⟩
 have HNV:Hid (N≤V.heap.size):=by show N≤_;rw [←hN];exact hb0.size
 have HD:Hid (∀(R:Nat→Part) (Z:Nat→Prop) (w:World),PBz N R w Z→(∀k,Z k→k<w.heap.size)→Below V.heap.size V w→Calls Tryz.prog 53 #[] w fun e w'=>∃g,e=.returned (.pointer (some ⟨g,0,none⟩))∧PBz N (addQ R 2 (dirP N g 0 [])) w' Z∧Below w.heap.size w w'):=fun R Z w q hZ hb=>(s_new w).mono fun e w' ⟨r1,⟨m,G,r2⟩,r3⟩=>by
  have hNw:N≤w.heap.size:=Nat.le_trans HNV.out hb.size
  have hM:DirM N w' (w.heap.size+1) m 0 G []:=⟨r2.cell,Nat.le_trans hNw r2.bg,Nat.le_trans hNw r2.bm,r2.map,(fun k hk=>absurd rfl hk),(fun k1 k2 hk=>absurd rfl hk),(fun k hk=>absurd rfl hk),r2.ok,(fun k hk=>absurd rfl hk),r2.num,r2.few⟩
  refine ⟨_,r1,q.add hZ r3 2 (good_dir N _ 0 []) (B:=BlkD (w.heap.size+1) m G []) ⟨m,G,hM,fun _=>Iff.rfl⟩ fun k hk=>(r2.blk k hk).1,r3⟩
 have HSN:Hid (∀(R:Nat→Part) (Z:Nat→Prop) (w:World),PBz N R w Z→(∀k,Z k→k<w.heap.size)→Below V.heap.size V w→Calls Tryz.prog 54 #[.int .u64 fi] w fun e w'=>∃g,e=.returned (.pointer (some ⟨g,0,none⟩))∧PBz N (addQ R 5 (objP N g [.int .u64 fi] 209)) w' Z∧Below w.heap.size w w'):=fun R Z w q hZ hb=>(snew_any fi w).mono fun e w' ⟨r1,r2,_,r4⟩=>⟨_,r1,q.add hZ r4 5 (good_obj N _ _ _) (B:=fun k=>k=w.heap.size) ⟨r2,Nat.le_trans HNV.out hb.size,fun _=>Iff.rfl⟩ fun k hk=>by rw [hk];exact Nat.le_refl _,r4⟩
 have HCK:Hid (∀(R:Nat→Part) (Z:Nat→Prop) (w:World),PBz N R w Z→(∀k,Z k→k<w.heap.size)→Below V.heap.size V w→Calls Tryz.prog 55 #[] w fun e w'=>∃g,e=.returned (.pointer (some ⟨g,0,none⟩))∧PBz N (addQ R 6 (objP N g [.int .i64 0] 214)) w' Z∧Below w.heap.size w w'):=fun R Z w q hZ hb=>(cnew_any w).mono fun e w' ⟨r1,r2,_,r4⟩=>⟨_,r1,q.add hZ r4 6 (good_obj N _ _ _) (B:=fun k=>k=w.heap.size) ⟨r2,Nat.le_trans HNV.out hb.size,fun _=>Iff.rfl⟩ fun k hk=>by rw [hk];exact Nat.le_refl _,r4⟩
 have HQN:Hid (∀(R:Nat→Part) (Z:Nat→Prop) (w:World),PBz N R w Z→(∀k,Z k→k<w.heap.size)→Below V.heap.size V w→Calls Tryz.prog 56 #[] w fun e w'=>∃g,e=.returned (.pointer (some ⟨g,0,none⟩))∧PBz N (addQ R 4 (snpP N g [] 0)) w' Z∧Below w.heap.size w w'):=fun R Z w q hZ hb=>(pnewQ_any N w (Nat.le_trans HNV.out hb.size)).mono fun e w' ⟨B,g,r1,r2,r3,r4⟩=>⟨g,r1,q.add hZ r3 4 (good_snp N g [] 0) (B:=B) r2 r4,r3⟩
 have HTN:Hid (∀(R:Nat→Part) (Z:Nat→Prop) (w:World),PBz N R w Z→(∀k,Z k→k<w.heap.size)→Below V.heap.size V w→Calls Tryz.prog 57 #[.int .i64 tr] w fun e w'=>∃g,e=.returned (.pointer (some ⟨g,0,none⟩))∧PBz N (addQ R 3 (trkP N g (newT tr))) w' Z∧Below w.heap.size w w'):=fun R Z w q hZ hb=>(tnew_any N w (Nat.le_trans HNV.out hb.size) tr).mono fun e w' ⟨r1,r2,r3⟩=>⟨_,r1,q.add hZ r3 3 (good_trk N _ _) (B:=BlkTr w.heap.size [] (.slice none 0 0)) ⟨[],_,0,r2,rfl⟩ (fun k hk=>by
  rcases hk with rfl|hk|⟨d,hd,_⟩
  ·exact Nat.le_refl _
  ·cases hk
  ·cases hd),r3⟩
 clear hv1 hb0 hQV
 have HNVs:=hid hN
 by_cases hr:rightS ve tr ti=true
 ·obtain ⟨⟨w1,w2⟩,w3⟩:(swithin ve 1 4096=true∧swithin tr 0 64=true)∧swithin ti 1 8=true:=by
   rw [hrt,Bool.and_eq_true,Bool.and_eq_true] at hr
   exact hr
  rw [w1] at HW1
  rw [w2] at HW2
  rw [w3] at HW3
  have HVE:Hid (0≤ve∧ve≤4096):=by
   unfold swithin at w1
   rw [Bool.and_eq_true] at w1
   have q1:=of_decide_eq_true w1.1
   have q2:=of_decide_eq_true w1.2
   exact ⟨by omega,q2⟩
  have HOK:Hid (∀(wc w':World) (hd hs hc hq ht:Nat),(∃c,PB N (newQ N hd hs hc hq ht tr fi) wc c)→Below V.heap.size V wc→wc.alloc (.cells #[.pointer (some ⟨hd,0,none⟩),.pointer (some ⟨hs,0,none⟩),.pointer (some ⟨hc,0,none⟩),.pointer (some ⟨hq,0,none⟩),.pointer (some ⟨ht,0,none⟩),.int .i64 ve] 146)=w'→NewPost W ve tr ti fi (.returned (.tuple #[.pointer (some ⟨wc.heap.size,0,none⟩),.int .i64 0])) w'):=fun wc w' hd hs hc hq ht ⟨c,q⟩ hb e=>by
   have hal:Below wc.heap.size wc w':=by rw [←e];exact (Below.refl _ _).alloc (Nat.le_refl _) _
   have ho:w'.heap[wc.heap.size]? = some (.cells #[.pointer (some ⟨hd,0,none⟩),.pointer (some ⟨hs,0,none⟩),.pointer (some ⟨hc,0,none⟩),.pointer (some ⟨hq,0,none⟩),.pointer (some ⟨ht,0,none⟩),.int .i64 ve] 146 (0,0)):=by rw [←e];exact heap_alloc_new wc _
   have hb2:Below W.heap.size W wc:=bel_then HV.out HV.out.size hb
   obtain ⟨c',r⟩:=q.store hal (Nat.le_trans HNV.out hb.size) ho HVE.out.1 HVE.out.2 h0 h1
   refine Or.inr ⟨hr,wc.heap.size,c',rfl,hb2.size,by rw [HNVs.out];exact r,bel_then hb2 hb2.size hal⟩
  clear hrt w1 w2 w3 HNO
  have HR:=hid hr
  clear hr
  go_enter Tryz.func14,Tryz.ntmps14
  go_upto_region 1 with fail
  try rw [hV]
  try rw [hQ]
  clear hV hQ
  go_wp2_with fail
  refine HW1.out.mono ?_
  rintro ea V ⟨rfl,rfl⟩
  go_wp2_with fail
  refine HW2.out.mono ?_
  rintro eb V ⟨rfl,rfl⟩
  go_wp2_with fail
  refine HW3.out.mono ?_
  rintro ed V ⟨rfl,rfl⟩
  clear HW1 HW2 HW3
  go_upto_region 3 with fail
  go_cut [4] from 5 (fun v4 wx=>∃M hd hs hc hq ht,v4=.pointer (some ⟨M,0,none⟩)∧Hid (wx.heap[M]? = some (.cells #[.pointer (some ⟨hd,0,none⟩),.pointer (some ⟨hs,0,none⟩),.pointer (some ⟨hc,0,none⟩),.pointer (some ⟨hq,0,none⟩),.pointer (some ⟨ht,0,none⟩)] 144 (0,0))∧(∃c,PB N (newQ N hd hs hc hq ht tr fi) wx c)∧Below V.heap.size V wx))
  case first =>
   refine wp_region_held_drew (S:=fun w'=>w'.cell? ⟨Q,0,none⟩=some (.int .i64 ve)∧w'.cell? ⟨Q,1,none⟩=some (.int .i64 tr)∧w'.cell? ⟨Q,2,none⟩=some (.int .i64 ti)∧w'.cell? ⟨Q,3,none⟩=some (.int .u64 fi)) (by kernel_rfl) ⟨c0,c1,c2,c3⟩ (fun hHeld=>?_)
   refine tkv 1 (.pointer (some ⟨Q,3,none⟩)) hHeld ?_
   simp only [Act.put,sz]
   refine tkv 2 (.int .u64 fi) hHeld ?_
   simp only [Act.put,sz]
   refine tkv 6 (.pointer (some ⟨Q,1,none⟩)) hHeld ?_
   simp only [Act.put,sz]
   refine tkv 7 (.int .i64 tr) hHeld ?_
   simp only [Act.put,sz]
   clear hHeld c0 c1 c2 c3
   have HB0:Hid (Below V.heap.size V V.drew):=bel_drewN (Below.refl _ V) 1
   generalize V.drew=u0 at *
   have HP0:Hid (PBz N (fun _=>noneP) u0 (fun _=>False)):=⟨_,pb_nil N u0,fun _ h=>h.elim⟩
   refine wpAnyH_ready (rs:=[0,10]) (by kernel_rfl) (by simp) ?_
   refine AllReadyH.cons (at_drop0 rfl) (fun K hK=>?_) (AllReadyH.cons (at_drop0 rfl) (fun K hK=>?_) AllReadyH.nil)
   ·rw [if_pos (by rfl)]
    go_simp
    refine (HD.out (fun _=>noneP) (fun _=>False) u0 HP0.out (fun _ h=>h.elim) HB0.out).mono ?_
    rintro e0 u1 ⟨hd,rfl,hp0,hb0⟩
    have HPu1:Hid (PBz N (addQ (fun _=>noneP) 2 (dirP N hd 0 [])) u1 (fun _=>False)):=hp0
    have HBu1:Hid (Below V.heap.size V u1):=bel_then HB0.out HB0.out.size hb0
    have hSu1:=HS.out u1 HBu1.out
    clear hp0 hb0
    go_wp2_with fail
    refine hK.out _ _ hSu1 (fun hHeld=>?_)
    clear hK K
    try simp only [Act.put,sz]
    clear hSu1
    refine wpAnyH_ready (rs:=[3,10]) (by kernel_rfl) (by simp) ?_
    refine AllReadyH.cons (at_drop0 rfl) (fun K hK=>?_) (AllReadyH.cons (at_drop0 rfl) (fun K hK=>?_) AllReadyH.nil)
    ·rw [if_pos (by rfl)]
     go_simp
     refine (HSN.out (addQ (fun _=>noneP) 2 (dirP N hd 0 [])) (fun _=>False) u1 HPu1.out (fun _ h=>h.elim) HBu1.out).mono ?_
     rintro e1 u2 ⟨hs,rfl,hp1,hb1⟩
     have HPu2:Hid (PBz N (addQ (addQ (fun _=>noneP) 2 (dirP N hd 0 [])) 5 (objP N hs [.int .u64 fi] 209)) u2 (fun _=>False)):=hp1
     have HBu2:Hid (Below V.heap.size V u2):=bel_then HBu1.out HBu1.out.size hb1
     have hSu2:=HS.out u2 HBu2.out
     clear hp1 hb1
     go_wp2_with fail
     refine hK.out _ _ hSu2 (fun hHeld=>?_)
     clear hK K
     try simp only [Act.put,sz]
     clear hSu2
     refine wpAnyH_ready (rs:=[4,10]) (by kernel_rfl) (by simp) ?_
     refine AllReadyH.cons (at_drop0 rfl) (fun K hK=>?_) (AllReadyH.cons (at_drop0 rfl) (fun K hK=>?_) AllReadyH.nil)
     ·rw [if_pos (by rfl)]
      go_simp
      refine (HCK.out (addQ (addQ (fun _=>noneP) 2 (dirP N hd 0 [])) 5 (objP N hs [.int .u64 fi] 209)) (fun _=>False) u2 HPu2.out (fun _ h=>h.elim) HBu2.out).mono ?_
      rintro e2 u3 ⟨hc,rfl,hp2,hb2⟩
      have HPu3:Hid (PBz N (addQ (addQ (addQ (fun _=>noneP) 2 (dirP N hd 0 [])) 5 (objP N hs [.int .u64 fi] 209)) 6 (objP N hc [.int .i64 0] 214)) u3 (fun _=>False)):=hp2
      have HBu3:Hid (Below V.heap.size V u3):=bel_then HBu2.out HBu2.out.size hb2
      have hSu3:=HS.out u3 HBu3.out
      clear hp2 hb2
      go_wp2_with fail
      refine hK.out _ _ hSu3 (fun hHeld=>?_)
      clear hK K
      try simp only [Act.put,sz]
      clear hSu3
      refine wpAnyH_ready (rs:=[5,10]) (by kernel_rfl) (by simp) ?_
      refine AllReadyH.cons (at_drop0 rfl) (fun K hK=>?_) (AllReadyH.cons (at_drop0 rfl) (fun K hK=>?_) AllReadyH.nil)
      ·rw [if_pos (by rfl)]
       go_simp
       refine (HQN.out (addQ (addQ (addQ (fun _=>noneP) 2 (dirP N hd 0 [])) 5 (objP N hs [.int .u64 fi] 209)) 6 (objP N hc [.int .i64 0] 214)) (fun _=>False) u3 HPu3.out (fun _ h=>h.elim) HBu3.out).mono ?_
       rintro e3 u4 ⟨hq,rfl,hp3,hb3⟩
       have HPu4:Hid (PBz N (addQ (addQ (addQ (addQ (fun _=>noneP) 2 (dirP N hd 0 [])) 5 (objP N hs [.int .u64 fi] 209)) 6 (objP N hc [.int .i64 0] 214)) 4 (snpP N hq [] 0)) u4 (fun _=>False)):=hp3
       have HBu4:Hid (Below V.heap.size V u4):=bel_then HBu3.out HBu3.out.size hb3
       have hSu4:=HS.out u4 HBu4.out
       clear hp3 hb3
       go_wp2_with fail
       refine hK.out _ _ hSu4 (fun hHeld=>?_)
       clear hK K
       try simp only [Act.put,sz]
       clear hSu4
       refine wpAnyH_ready (rs:=[8,10]) (by kernel_rfl) (by simp) ?_
       refine AllReadyH.cons (at_drop0 rfl) (fun K hK=>?_) (AllReadyH.cons (at_drop0 rfl) (fun K hK=>?_) AllReadyH.nil)
       ·rw [if_pos (by rfl)]
        go_simp
        refine (HTN.out (addQ (addQ (addQ (addQ (fun _=>noneP) 2 (dirP N hd 0 [])) 5 (objP N hs [.int .u64 fi] 209)) 6 (objP N hc [.int .i64 0] 214)) 4 (snpP N hq [] 0)) (fun _=>False) u4 HPu4.out (fun _ h=>h.elim) HBu4.out).mono ?_
        rintro e4 u5 ⟨ht,rfl,hp4,hb4⟩
        have HPu5:Hid (PBz N (addQ (addQ (addQ (addQ (addQ (fun _=>noneP) 2 (dirP N hd 0 [])) 5 (objP N hs [.int .u64 fi] 209)) 6 (objP N hc [.int .i64 0] 214)) 4 (snpP N hq [] 0)) 3 (trkP N ht (newT tr))) u5 (fun _=>False)):=hp4
        have HBu5:Hid (Below V.heap.size V u5):=bel_then HBu4.out HBu4.out.size hb4
        have hSu5:=HS.out u5 HBu5.out
        clear hp4 hb4
        go_wp2_with fail
        refine hK.out _ _ hSu5 (fun hHeld=>?_)
        clear hK K
        try simp only [Act.put,sz]
        clear hSu5
        refine tkv 9 (.agg #[.pointer (some ⟨hd,0,none⟩),.pointer (some ⟨hs,0,none⟩),.pointer (some ⟨hc,0,none⟩),.pointer (some ⟨hq,0,none⟩),.pointer (some ⟨ht,0,none⟩)]) hHeld ?_
        simp only [Act.put,sz]
        refine wpAnyH_ready (rs:=[10]) (by kernel_rfl) (by simp) ?_
        refine AllReadyH.cons (at_drop0 rfl) (fun K hK=>?_) AllReadyH.nil
        rw [if_pos (by rfl)]
        go_simp
        obtain ⟨M,hM⟩:∃M,u5.heap.size=M:=⟨_,rfl⟩
        obtain ⟨x5,hx5⟩:∃x5,u5.alloc (.cells #[.pointer none,.pointer none,.pointer none,.pointer none,.pointer none] 144)=x5:=⟨_,rfl⟩
        have hal:Below u5.heap.size u5 x5:=by rw [←hx5];exact (Below.refl _ _).alloc (Nat.le_refl _) _
        have hmb:x5.heap[M]? = some (.cells #[.pointer none,.pointer none,.pointer none,.pointer none,.pointer none] 144 (0,0)):=by rw [←hx5,←hM];exact heap_alloc_new u5 _
        have HMx5:Hid (x5.heap[M]? = some (.cells #[.pointer none,.pointer none,.pointer none,.pointer none,.pointer none] 144 (0,0))∧V.heap.size≤M∧M<x5.heap.size):=⟨hmb,by rw [←hM];exact HBu5.out.size,(Array.getElem?_eq_some_iff.1 hmb).1⟩
        have HPx5:Hid (PBz N (addQ (addQ (addQ (addQ (addQ (fun _=>noneP) 2 (dirP N hd 0 [])) 5 (objP N hs [.int .u64 fi] 209)) 6 (objP N hc [.int .i64 0] 214)) 4 (snpP N hq [] 0)) 3 (trkP N ht (newT tr))) x5 (fun k=>k=M)):=by obtain ⟨c,q,_⟩:=HPu5.out;exact ⟨c,q.on hal,fun k hk=>by rw [hk,←hM];exact q.out _ (Nat.le_refl _)⟩
        have HBx5:Hid (Below V.heap.size V x5):=bel_then HBu5.out HBu5.out.size hal
        have hSx5:=HS.out x5 HBx5.out
        clear hal hmb
        go_wp2_with fail
        try rw [hM]
        try rw [hx5]
        refine hK.out _ _ hSx5 (fun hHeld=>?_)
        clear hK K
        try simp only [Act.put,sz]
        clear hSx5 hM hx5
        have hz:=HMx5.out.1
        obtain ⟨WZ,hWZ⟩:∃WZ,(((((x5.setCell ⟨M,0,none⟩ (.pointer (some ⟨hd,0,none⟩))).setCell ⟨M,1,none⟩ (.pointer (some ⟨hs,0,none⟩))).setCell ⟨M,2,none⟩ (.pointer (some ⟨hc,0,none⟩))).setCell ⟨M,3,none⟩ (.pointer (some ⟨hq,0,none⟩))).setCell ⟨M,4,none⟩ (.pointer (some ⟨ht,0,none⟩)))=WZ:=⟨_,rfl⟩
        have hbz:WZ.heap[M]? = some (.cells #[.pointer (some ⟨hd,0,none⟩),.pointer (some ⟨hs,0,none⟩),.pointer (some ⟨hc,0,none⟩),.pointer (some ⟨hq,0,none⟩),.pointer (some ⟨ht,0,none⟩)] 144 (0,0)):=by
         rw [←hWZ]
         exact heap_setCell_same _ M 4 _ _ _ (heap_setCell_same _ M 3 _ _ _ (heap_setCell_same _ M 2 _ _ _ (heap_setCell_same _ M 1 _ _ _ (heap_setCell_same _ M 0 _ _ _ hz))))
        have fz:Fr (fun b=>b=M) x5 WZ:=by
         rw [←hWZ]
         exact ((((fr_set5 x5 M 0 _).then (fr_set5 _ M 1 _) fun k hk=>Or.inl hk).then (fr_set5 _ M 2 _) fun k hk=>Or.inl hk).then (fr_set5 _ M 3 _) fun k hk=>Or.inl hk).then (fr_set5 _ M 4 _) fun k hk=>Or.inl hk
        have y0:x5.cell? ⟨M,0,none⟩=some (.pointer none):=cz hz
        have z0:=Lib.frozen_of_heap hz 0
        have y1:x5.cell? ⟨M,1,none⟩=some (.pointer none):=cz hz
        have z1:=Lib.frozen_of_heap hz 1
        have y2:x5.cell? ⟨M,2,none⟩=some (.pointer none):=cz hz
        have z2:=Lib.frozen_of_heap hz 2
        have y3:x5.cell? ⟨M,3,none⟩=some (.pointer none):=cz hz
        have z3:=Lib.frozen_of_heap hz 3
        have y4:x5.cell? ⟨M,4,none⟩=some (.pointer none):=cz hz
        have z4:=Lib.frozen_of_heap hz 4
        have HFIN:Hid (WZ.heap[M]? = some (.cells #[.pointer (some ⟨hd,0,none⟩),.pointer (some ⟨hs,0,none⟩),.pointer (some ⟨hc,0,none⟩),.pointer (some ⟨hq,0,none⟩),.pointer (some ⟨ht,0,none⟩)] 144 (0,0))∧(∃c,PB N (newQ N hd hs hc hq ht tr fi) WZ c)∧Below V.heap.size V WZ):=by
         refine ⟨hbz,?_,HBx5.out.trans (fz.below HBx5.out.size fun k hk=>by have:=HMx5.out;omega)⟩
         exact PBz.box HPx5.out fz (fun p e=>by rw [e];rfl)
        have hSz:=HS.out WZ HFIN.out.2.2
        clear hbz fz hz
        refine wpAnyH_ready (rs:=[11]) (by kernel_rfl) (by simp) ?_
        refine AllReadyH.cons (at_drop0 rfl) (fun K hK=>?_) AllReadyH.nil
        rw [if_pos (by rfl)]
        go_simp
        go_wp2_with fail
        try rw [hWZ]
        refine hK.out _ _ hSz (fun hHeld=>?_)
        clear hK K
        try simp only [Act.put,sz]
        clear hSz
        refine wpAnyH_done (by kernel_rfl) ?_ _
        clear y0 y1 y2 y3 y4 z0 z1 z2 z3 z4 hWZ
        go_wp2_with fail
        go_meet
        exact ⟨M,hd,hs,hc,hq,ht,rfl,HFIN.out⟩
       ·rw [if_pos (by rfl)]
        go_simp
        obtain ⟨M,hM⟩:∃M,u4.heap.size=M:=⟨_,rfl⟩
        obtain ⟨x4,hx4⟩:∃x4,u4.alloc (.cells #[.pointer none,.pointer none,.pointer none,.pointer none,.pointer none] 144)=x4:=⟨_,rfl⟩
        have hal:Below u4.heap.size u4 x4:=by rw [←hx4];exact (Below.refl _ _).alloc (Nat.le_refl _) _
        have hmb:x4.heap[M]? = some (.cells #[.pointer none,.pointer none,.pointer none,.pointer none,.pointer none] 144 (0,0)):=by rw [←hx4,←hM];exact heap_alloc_new u4 _
        have HMx4:Hid (x4.heap[M]? = some (.cells #[.pointer none,.pointer none,.pointer none,.pointer none,.pointer none] 144 (0,0))∧V.heap.size≤M∧M<x4.heap.size):=⟨hmb,by rw [←hM];exact HBu4.out.size,(Array.getElem?_eq_some_iff.1 hmb).1⟩
        have HPx4:Hid (PBz N (addQ (addQ (addQ (addQ (fun _=>noneP) 2 (dirP N hd 0 [])) 5 (objP N hs [.int .u64 fi] 209)) 6 (objP N hc [.int .i64 0] 214)) 4 (snpP N hq [] 0)) x4 (fun k=>k=M)):=by obtain ⟨c,q,_⟩:=HPu4.out;exact ⟨c,q.on hal,fun k hk=>by rw [hk,←hM];exact q.out _ (Nat.le_refl _)⟩
        have HBx4:Hid (Below V.heap.size V x4):=bel_then HBu4.out HBu4.out.size hal
        have hSx4:=HS.out x4 HBx4.out
        clear hal hmb
        go_wp2_with fail
        try rw [hM]
        try rw [hx4]
        refine hK.out _ _ hSx4 (fun hHeld=>?_)
        clear hK K
        try simp only [Act.put,sz]
        clear hSx4 hM hx4
        refine wpAnyH_ready (rs:=[8]) (by kernel_rfl) (by simp) ?_
        refine AllReadyH.cons (at_drop0 rfl) (fun K hK=>?_) AllReadyH.nil
        rw [if_pos (by rfl)]
        go_simp
        refine (HTN.out (addQ (addQ (addQ (addQ (fun _=>noneP) 2 (dirP N hd 0 [])) 5 (objP N hs [.int .u64 fi] 209)) 6 (objP N hc [.int .i64 0] 214)) 4 (snpP N hq [] 0)) (fun k=>k=M) x4 HPx4.out (fun k hk=>by rw [hk];exact HMx4.out.2.2) HBx4.out).mono ?_
        rintro e4 u5b ⟨ht,rfl,hp4,hb4⟩
        have HPu5b:Hid (PBz N (addQ (addQ (addQ (addQ (addQ (fun _=>noneP) 2 (dirP N hd 0 [])) 5 (objP N hs [.int .u64 fi] 209)) 6 (objP N hc [.int .i64 0] 214)) 4 (snpP N hq [] 0)) 3 (trkP N ht (newT tr))) u5b (fun k=>k=M)):=hp4
        have HBu5b:Hid (Below V.heap.size V u5b):=bel_then HBx4.out HBx4.out.size hb4
        have hSu5b:=HS.out u5b HBu5b.out
        have HMu5b:Hid (u5b.heap[M]? = some (.cells #[.pointer none,.pointer none,.pointer none,.pointer none,.pointer none] 144 (0,0))∧V.heap.size≤M∧M<u5b.heap.size):=⟨(hb4.block M HMx4.out.2.2).trans HMx4.out.1,HMx4.out.2.1,Nat.lt_of_lt_of_le HMx4.out.2.2 hb4.size⟩
        clear hp4 hb4
        go_wp2_with fail
        refine hK.out _ _ hSu5b (fun hHeld=>?_)
        clear hK K
        try simp only [Act.put,sz]
        clear hSu5b
        refine tkv 9 (.agg #[.pointer (some ⟨hd,0,none⟩),.pointer (some ⟨hs,0,none⟩),.pointer (some ⟨hc,0,none⟩),.pointer (some ⟨hq,0,none⟩),.pointer (some ⟨ht,0,none⟩)]) hHeld ?_
        simp only [Act.put,sz]
        have hz:=HMu5b.out.1
        obtain ⟨WZ,hWZ⟩:∃WZ,(((((u5b.setCell ⟨M,0,none⟩ (.pointer (some ⟨hd,0,none⟩))).setCell ⟨M,1,none⟩ (.pointer (some ⟨hs,0,none⟩))).setCell ⟨M,2,none⟩ (.pointer (some ⟨hc,0,none⟩))).setCell ⟨M,3,none⟩ (.pointer (some ⟨hq,0,none⟩))).setCell ⟨M,4,none⟩ (.pointer (some ⟨ht,0,none⟩)))=WZ:=⟨_,rfl⟩
        have hbz:WZ.heap[M]? = some (.cells #[.pointer (some ⟨hd,0,none⟩),.pointer (some ⟨hs,0,none⟩),.pointer (some ⟨hc,0,none⟩),.pointer (some ⟨hq,0,none⟩),.pointer (some ⟨ht,0,none⟩)] 144 (0,0)):=by
         rw [←hWZ]
         exact heap_setCell_same _ M 4 _ _ _ (heap_setCell_same _ M 3 _ _ _ (heap_setCell_same _ M 2 _ _ _ (heap_setCell_same _ M 1 _ _ _ (heap_setCell_same _ M 0 _ _ _ hz))))
        have fz:Fr (fun b=>b=M) u5b WZ:=by
         rw [←hWZ]
         exact ((((fr_set5 u5b M 0 _).then (fr_set5 _ M 1 _) fun k hk=>Or.inl hk).then (fr_set5 _ M 2 _) fun k hk=>Or.inl hk).then (fr_set5 _ M 3 _) fun k hk=>Or.inl hk).then (fr_set5 _ M 4 _) fun k hk=>Or.inl hk
        have y0:u5b.cell? ⟨M,0,none⟩=some (.pointer none):=cz hz
        have z0:=Lib.frozen_of_heap hz 0
        have y1:u5b.cell? ⟨M,1,none⟩=some (.pointer none):=cz hz
        have z1:=Lib.frozen_of_heap hz 1
        have y2:u5b.cell? ⟨M,2,none⟩=some (.pointer none):=cz hz
        have z2:=Lib.frozen_of_heap hz 2
        have y3:u5b.cell? ⟨M,3,none⟩=some (.pointer none):=cz hz
        have z3:=Lib.frozen_of_heap hz 3
        have y4:u5b.cell? ⟨M,4,none⟩=some (.pointer none):=cz hz
        have z4:=Lib.frozen_of_heap hz 4
        have HFIN:Hid (WZ.heap[M]? = some (.cells #[.pointer (some ⟨hd,0,none⟩),.pointer (some ⟨hs,0,none⟩),.pointer (some ⟨hc,0,none⟩),.pointer (some ⟨hq,0,none⟩),.pointer (some ⟨ht,0,none⟩)] 144 (0,0))∧(∃c,PB N (newQ N hd hs hc hq ht tr fi) WZ c)∧Below V.heap.size V WZ):=by
         refine ⟨hbz,?_,HBu5b.out.trans (fz.below HBu5b.out.size fun k hk=>by have:=HMu5b.out;omega)⟩
         exact PBz.box HPu5b.out fz (fun p e=>by rw [e];rfl)
        have hSz:=HS.out WZ HFIN.out.2.2
        clear hbz fz hz
        refine wpAnyH_ready (rs:=[11]) (by kernel_rfl) (by simp) ?_
        refine AllReadyH.cons (at_drop0 rfl) (fun K hK=>?_) AllReadyH.nil
        rw [if_pos (by rfl)]
        go_simp
        go_wp2_with fail
        try rw [hWZ]
        refine hK.out _ _ hSz (fun hHeld=>?_)
        clear hK K
        try simp only [Act.put,sz]
        clear hSz
        refine wpAnyH_done (by kernel_rfl) ?_ _
        clear y0 y1 y2 y3 y4 z0 z1 z2 z3 z4 hWZ
        go_wp2_with fail
        go_meet
        exact ⟨M,hd,hs,hc,hq,ht,rfl,HFIN.out⟩
      ·rw [if_pos (by rfl)]
       go_simp
       obtain ⟨M,hM⟩:∃M,u3.heap.size=M:=⟨_,rfl⟩
       obtain ⟨x3,hx3⟩:∃x3,u3.alloc (.cells #[.pointer none,.pointer none,.pointer none,.pointer none,.pointer none] 144)=x3:=⟨_,rfl⟩
       have hal:Below u3.heap.size u3 x3:=by rw [←hx3];exact (Below.refl _ _).alloc (Nat.le_refl _) _
       have hmb:x3.heap[M]? = some (.cells #[.pointer none,.pointer none,.pointer none,.pointer none,.pointer none] 144 (0,0)):=by rw [←hx3,←hM];exact heap_alloc_new u3 _
       have HMx3:Hid (x3.heap[M]? = some (.cells #[.pointer none,.pointer none,.pointer none,.pointer none,.pointer none] 144 (0,0))∧V.heap.size≤M∧M<x3.heap.size):=⟨hmb,by rw [←hM];exact HBu3.out.size,(Array.getElem?_eq_some_iff.1 hmb).1⟩
       have HPx3:Hid (PBz N (addQ (addQ (addQ (fun _=>noneP) 2 (dirP N hd 0 [])) 5 (objP N hs [.int .u64 fi] 209)) 6 (objP N hc [.int .i64 0] 214)) x3 (fun k=>k=M)):=by obtain ⟨c,q,_⟩:=HPu3.out;exact ⟨c,q.on hal,fun k hk=>by rw [hk,←hM];exact q.out _ (Nat.le_refl _)⟩
       have HBx3:Hid (Below V.heap.size V x3):=bel_then HBu3.out HBu3.out.size hal
       have hSx3:=HS.out x3 HBx3.out
       clear hal hmb
       go_wp2_with fail
       try rw [hM]
       try rw [hx3]
       refine hK.out _ _ hSx3 (fun hHeld=>?_)
       clear hK K
       try simp only [Act.put,sz]
       clear hSx3 hM hx3
       refine wpAnyH_ready (rs:=[5]) (by kernel_rfl) (by simp) ?_
       refine AllReadyH.cons (at_drop0 rfl) (fun K hK=>?_) AllReadyH.nil
       rw [if_pos (by rfl)]
       go_simp
       refine (HQN.out (addQ (addQ (addQ (fun _=>noneP) 2 (dirP N hd 0 [])) 5 (objP N hs [.int .u64 fi] 209)) 6 (objP N hc [.int .i64 0] 214)) (fun k=>k=M) x3 HPx3.out (fun k hk=>by rw [hk];exact HMx3.out.2.2) HBx3.out).mono ?_
       rintro e3 u4b ⟨hq,rfl,hp3,hb3⟩
       have HPu4b:Hid (PBz N (addQ (addQ (addQ (addQ (fun _=>noneP) 2 (dirP N hd 0 [])) 5 (objP N hs [.int .u64 fi] 209)) 6 (objP N hc [.int .i64 0] 214)) 4 (snpP N hq [] 0)) u4b (fun k=>k=M)):=hp3
       have HBu4b:Hid (Below V.heap.size V u4b):=bel_then HBx3.out HBx3.out.size hb3
       have hSu4b:=HS.out u4b HBu4b.out
       have HMu4b:Hid (u4b.heap[M]? = some (.cells #[.pointer none,.pointer none,.pointer none,.pointer none,.pointer none] 144 (0,0))∧V.heap.size≤M∧M<u4b.heap.size):=⟨(hb3.block M HMx3.out.2.2).trans HMx3.out.1,HMx3.out.2.1,Nat.lt_of_lt_of_le HMx3.out.2.2 hb3.size⟩
       clear hp3 hb3
       go_wp2_with fail
       refine hK.out _ _ hSu4b (fun hHeld=>?_)
       clear hK K
       try simp only [Act.put,sz]
       clear hSu4b
       refine wpAnyH_ready (rs:=[8]) (by kernel_rfl) (by simp) ?_
       refine AllReadyH.cons (at_drop0 rfl) (fun K hK=>?_) AllReadyH.nil
       rw [if_pos (by rfl)]
       go_simp
       refine (HTN.out (addQ (addQ (addQ (addQ (fun _=>noneP) 2 (dirP N hd 0 [])) 5 (objP N hs [.int .u64 fi] 209)) 6 (objP N hc [.int .i64 0] 214)) 4 (snpP N hq [] 0)) (fun k=>k=M) u4b HPu4b.out (fun k hk=>by rw [hk];exact HMu4b.out.2.2) HBu4b.out).mono ?_
       rintro e4 u5b ⟨ht,rfl,hp4,hb4⟩
       have HPu5b:Hid (PBz N (addQ (addQ (addQ (addQ (addQ (fun _=>noneP) 2 (dirP N hd 0 [])) 5 (objP N hs [.int .u64 fi] 209)) 6 (objP N hc [.int .i64 0] 214)) 4 (snpP N hq [] 0)) 3 (trkP N ht (newT tr))) u5b (fun k=>k=M)):=hp4
       have HBu5b:Hid (Below V.heap.size V u5b):=bel_then HBu4b.out HBu4b.out.size hb4
       have hSu5b:=HS.out u5b HBu5b.out
       have HMu5b:Hid (u5b.heap[M]? = some (.cells #[.pointer none,.pointer none,.pointer none,.pointer none,.pointer none] 144 (0,0))∧V.heap.size≤M∧M<u5b.heap.size):=⟨(hb4.block M HMu4b.out.2.2).trans HMu4b.out.1,HMu4b.out.2.1,Nat.lt_of_lt_of_le HMu4b.out.2.2 hb4.size⟩
       clear hp4 hb4
       go_wp2_with fail
       refine hK.out _ _ hSu5b (fun hHeld=>?_)
       clear hK K
       try simp only [Act.put,sz]
       clear hSu5b
       refine tkv 9 (.agg #[.pointer (some ⟨hd,0,none⟩),.pointer (some ⟨hs,0,none⟩),.pointer (some ⟨hc,0,none⟩),.pointer (some ⟨hq,0,none⟩),.pointer (some ⟨ht,0,none⟩)]) hHeld ?_
       simp only [Act.put,sz]
       have hz:=HMu5b.out.1
       obtain ⟨WZ,hWZ⟩:∃WZ,(((((u5b.setCell ⟨M,0,none⟩ (.pointer (some ⟨hd,0,none⟩))).setCell ⟨M,1,none⟩ (.pointer (some ⟨hs,0,none⟩))).setCell ⟨M,2,none⟩ (.pointer (some ⟨hc,0,none⟩))).setCell ⟨M,3,none⟩ (.pointer (some ⟨hq,0,none⟩))).setCell ⟨M,4,none⟩ (.pointer (some ⟨ht,0,none⟩)))=WZ:=⟨_,rfl⟩
       have hbz:WZ.heap[M]? = some (.cells #[.pointer (some ⟨hd,0,none⟩),.pointer (some ⟨hs,0,none⟩),.pointer (some ⟨hc,0,none⟩),.pointer (some ⟨hq,0,none⟩),.pointer (some ⟨ht,0,none⟩)] 144 (0,0)):=by
        rw [←hWZ]
        exact heap_setCell_same _ M 4 _ _ _ (heap_setCell_same _ M 3 _ _ _ (heap_setCell_same _ M 2 _ _ _ (heap_setCell_same _ M 1 _ _ _ (heap_setCell_same _ M 0 _ _ _ hz))))
       have fz:Fr (fun b=>b=M) u5b WZ:=by
        rw [←hWZ]
        exact ((((fr_set5 u5b M 0 _).then (fr_set5 _ M 1 _) fun k hk=>Or.inl hk).then (fr_set5 _ M 2 _) fun k hk=>Or.inl hk).then (fr_set5 _ M 3 _) fun k hk=>Or.inl hk).then (fr_set5 _ M 4 _) fun k hk=>Or.inl hk
       have y0:u5b.cell? ⟨M,0,none⟩=some (.pointer none):=cz hz
       have z0:=Lib.frozen_of_heap hz 0
       have y1:u5b.cell? ⟨M,1,none⟩=some (.pointer none):=cz hz
       have z1:=Lib.frozen_of_heap hz 1
       have y2:u5b.cell? ⟨M,2,none⟩=some (.pointer none):=cz hz
       have z2:=Lib.frozen_of_heap hz 2
       have y3:u5b.cell? ⟨M,3,none⟩=some (.pointer none):=cz hz
       have z3:=Lib.frozen_of_heap hz 3
       have y4:u5b.cell? ⟨M,4,none⟩=some (.pointer none):=cz hz
       have z4:=Lib.frozen_of_heap hz 4
       have HFIN:Hid (WZ.heap[M]? = some (.cells #[.pointer (some ⟨hd,0,none⟩),.pointer (some ⟨hs,0,none⟩),.pointer (some ⟨hc,0,none⟩),.pointer (some ⟨hq,0,none⟩),.pointer (some ⟨ht,0,none⟩)] 144 (0,0))∧(∃c,PB N (newQ N hd hs hc hq ht tr fi) WZ c)∧Below V.heap.size V WZ):=by
        refine ⟨hbz,?_,HBu5b.out.trans (fz.below HBu5b.out.size fun k hk=>by have:=HMu5b.out;omega)⟩
        exact PBz.box HPu5b.out fz (fun p e=>by rw [e];rfl)
       have hSz:=HS.out WZ HFIN.out.2.2
       clear hbz fz hz
       refine wpAnyH_ready (rs:=[11]) (by kernel_rfl) (by simp) ?_
       refine AllReadyH.cons (at_drop0 rfl) (fun K hK=>?_) AllReadyH.nil
       rw [if_pos (by rfl)]
       go_simp
       go_wp2_with fail
       try rw [hWZ]
       refine hK.out _ _ hSz (fun hHeld=>?_)
       clear hK K
       try simp only [Act.put,sz]
       clear hSz
       refine wpAnyH_done (by kernel_rfl) ?_ _
       clear y0 y1 y2 y3 y4 z0 z1 z2 z3 z4 hWZ
       go_wp2_with fail
       go_meet
       exact ⟨M,hd,hs,hc,hq,ht,rfl,HFIN.out⟩
     ·rw [if_pos (by rfl)]
      go_simp
      obtain ⟨M,hM⟩:∃M,u2.heap.size=M:=⟨_,rfl⟩
      obtain ⟨x2,hx2⟩:∃x2,u2.alloc (.cells #[.pointer none,.pointer none,.pointer none,.pointer none,.pointer none] 144)=x2:=⟨_,rfl⟩
      have hal:Below u2.heap.size u2 x2:=by rw [←hx2];exact (Below.refl _ _).alloc (Nat.le_refl _) _
      have hmb:x2.heap[M]? = some (.cells #[.pointer none,.pointer none,.pointer none,.pointer none,.pointer none] 144 (0,0)):=by rw [←hx2,←hM];exact heap_alloc_new u2 _
      have HMx2:Hid (x2.heap[M]? = some (.cells #[.pointer none,.pointer none,.pointer none,.pointer none,.pointer none] 144 (0,0))∧V.heap.size≤M∧M<x2.heap.size):=⟨hmb,by rw [←hM];exact HBu2.out.size,(Array.getElem?_eq_some_iff.1 hmb).1⟩
      have HPx2:Hid (PBz N (addQ (addQ (fun _=>noneP) 2 (dirP N hd 0 [])) 5 (objP N hs [.int .u64 fi] 209)) x2 (fun k=>k=M)):=by obtain ⟨c,q,_⟩:=HPu2.out;exact ⟨c,q.on hal,fun k hk=>by rw [hk,←hM];exact q.out _ (Nat.le_refl _)⟩
      have HBx2:Hid (Below V.heap.size V x2):=bel_then HBu2.out HBu2.out.size hal
      have hSx2:=HS.out x2 HBx2.out
      clear hal hmb
      go_wp2_with fail
      try rw [hM]
      try rw [hx2]
      refine hK.out _ _ hSx2 (fun hHeld=>?_)
      clear hK K
      try simp only [Act.put,sz]
      clear hSx2 hM hx2
      refine wpAnyH_ready (rs:=[4]) (by kernel_rfl) (by simp) ?_
      refine AllReadyH.cons (at_drop0 rfl) (fun K hK=>?_) AllReadyH.nil
      rw [if_pos (by rfl)]
      go_simp
      refine (HCK.out (addQ (addQ (fun _=>noneP) 2 (dirP N hd 0 [])) 5 (objP N hs [.int .u64 fi] 209)) (fun k=>k=M) x2 HPx2.out (fun k hk=>by rw [hk];exact HMx2.out.2.2) HBx2.out).mono ?_
      rintro e2 u3b ⟨hc,rfl,hp2,hb2⟩
      have HPu3b:Hid (PBz N (addQ (addQ (addQ (fun _=>noneP) 2 (dirP N hd 0 [])) 5 (objP N hs [.int .u64 fi] 209)) 6 (objP N hc [.int .i64 0] 214)) u3b (fun k=>k=M)):=hp2
      have HBu3b:Hid (Below V.heap.size V u3b):=bel_then HBx2.out HBx2.out.size hb2
      have hSu3b:=HS.out u3b HBu3b.out
      have HMu3b:Hid (u3b.heap[M]? = some (.cells #[.pointer none,.pointer none,.pointer none,.pointer none,.pointer none] 144 (0,0))∧V.heap.size≤M∧M<u3b.heap.size):=⟨(hb2.block M HMx2.out.2.2).trans HMx2.out.1,HMx2.out.2.1,Nat.lt_of_lt_of_le HMx2.out.2.2 hb2.size⟩
      clear hp2 hb2
      go_wp2_with fail
      refine hK.out _ _ hSu3b (fun hHeld=>?_)
      clear hK K
      try simp only [Act.put,sz]
      clear hSu3b
      refine wpAnyH_ready (rs:=[5]) (by kernel_rfl) (by simp) ?_
      refine AllReadyH.cons (at_drop0 rfl) (fun K hK=>?_) AllReadyH.nil
      rw [if_pos (by rfl)]
      go_simp
      refine (HQN.out (addQ (addQ (addQ (fun _=>noneP) 2 (dirP N hd 0 [])) 5 (objP N hs [.int .u64 fi] 209)) 6 (objP N hc [.int .i64 0] 214)) (fun k=>k=M) u3b HPu3b.out (fun k hk=>by rw [hk];exact HMu3b.out.2.2) HBu3b.out).mono ?_
      rintro e3 u4b ⟨hq,rfl,hp3,hb3⟩
      have HPu4b:Hid (PBz N (addQ (addQ (addQ (addQ (fun _=>noneP) 2 (dirP N hd 0 [])) 5 (objP N hs [.int .u64 fi] 209)) 6 (objP N hc [.int .i64 0] 214)) 4 (snpP N hq [] 0)) u4b (fun k=>k=M)):=hp3
      have HBu4b:Hid (Below V.heap.size V u4b):=bel_then HBu3b.out HBu3b.out.size hb3
      have hSu4b:=HS.out u4b HBu4b.out
      have HMu4b:Hid (u4b.heap[M]? = some (.cells #[.pointer none,.pointer none,.pointer none,.pointer none,.pointer none] 144 (0,0))∧V.heap.size≤M∧M<u4b.heap.size):=⟨(hb3.block M HMu3b.out.2.2).trans HMu3b.out.1,HMu3b.out.2.1,Nat.lt_of_lt_of_le HMu3b.out.2.2 hb3.size⟩
      clear hp3 hb3
      go_wp2_with fail
      refine hK.out _ _ hSu4b (fun hHeld=>?_)
      clear hK K
      try simp only [Act.put,sz]
      clear hSu4b
      refine wpAnyH_ready (rs:=[8]) (by kernel_rfl) (by simp) ?_
      refine AllReadyH.cons (at_drop0 rfl) (fun K hK=>?_) AllReadyH.nil
      rw [if_pos (by rfl)]
      go_simp
      refine (HTN.out (addQ (addQ (addQ (addQ (fun _=>noneP) 2 (dirP N hd 0 [])) 5 (objP N hs [.int .u64 fi] 209)) 6 (objP N hc [.int .i64 0] 214)) 4 (snpP N hq [] 0)) (fun k=>k=M) u4b HPu4b.out (fun k hk=>by rw [hk];exact HMu4b.out.2.2) HBu4b.out).mono ?_
      rintro e4 u5b ⟨ht,rfl,hp4,hb4⟩
      have HPu5b:Hid (PBz N (addQ (addQ (addQ (addQ (addQ (fun _=>noneP) 2 (dirP N hd 0 [])) 5 (objP N hs [.int .u64 fi] 209)) 6 (objP N hc [.int .i64 0] 214)) 4 (snpP N hq [] 0)) 3 (trkP N ht (newT tr))) u5b (fun k=>k=M)):=hp4
      have HBu5b:Hid (Below V.heap.size V u5b):=bel_then HBu4b.out HBu4b.out.size hb4
      have hSu5b:=HS.out u5b HBu5b.out
      have HMu5b:Hid (u5b.heap[M]? = some (.cells #[.pointer none,.pointer none,.pointer none,.pointer none,.pointer none] 144 (0,0))∧V.heap.size≤M∧M<u5b.heap.size):=⟨(hb4.block M HMu4b.out.2.2).trans HMu4b.out.1,HMu4b.out.2.1,Nat.lt_of_lt_of_le HMu4b.out.2.2 hb4.size⟩
      clear hp4 hb4
      go_wp2_with fail
      refine hK.out _ _ hSu5b (fun hHeld=>?_)
      clear hK K
      try simp only [Act.put,sz]
      clear hSu5b
      refine tkv 9 (.agg #[.pointer (some ⟨hd,0,none⟩),.pointer (some ⟨hs,0,none⟩),.pointer (some ⟨hc,0,none⟩),.pointer (some ⟨hq,0,none⟩),.pointer (some ⟨ht,0,none⟩)]) hHeld ?_
      simp only [Act.put,sz]
      have hz:=HMu5b.out.1
      obtain ⟨WZ,hWZ⟩:∃WZ,(((((u5b.setCell ⟨M,0,none⟩ (.pointer (some ⟨hd,0,none⟩))).setCell ⟨M,1,none⟩ (.pointer (some ⟨hs,0,none⟩))).setCell ⟨M,2,none⟩ (.pointer (some ⟨hc,0,none⟩))).setCell ⟨M,3,none⟩ (.pointer (some ⟨hq,0,none⟩))).setCell ⟨M,4,none⟩ (.pointer (some ⟨ht,0,none⟩)))=WZ:=⟨_,rfl⟩
      have hbz:WZ.heap[M]? = some (.cells #[.pointer (some ⟨hd,0,none⟩),.pointer (some ⟨hs,0,none⟩),.pointer (some ⟨hc,0,none⟩),.pointer (some ⟨hq,0,none⟩),.pointer (some ⟨ht,0,none⟩)] 144 (0,0)):=by
       rw [←hWZ]
       exact heap_setCell_same _ M 4 _ _ _ (heap_setCell_same _ M 3 _ _ _ (heap_setCell_same _ M 2 _ _ _ (heap_setCell_same _ M 1 _ _ _ (heap_setCell_same _ M 0 _ _ _ hz))))
      have fz:Fr (fun b=>b=M) u5b WZ:=by
       rw [←hWZ]
       exact ((((fr_set5 u5b M 0 _).then (fr_set5 _ M 1 _) fun k hk=>Or.inl hk).then (fr_set5 _ M 2 _) fun k hk=>Or.inl hk).then (fr_set5 _ M 3 _) fun k hk=>Or.inl hk).then (fr_set5 _ M 4 _) fun k hk=>Or.inl hk
      have y0:u5b.cell? ⟨M,0,none⟩=some (.pointer none):=cz hz
      have z0:=Lib.frozen_of_heap hz 0
      have y1:u5b.cell? ⟨M,1,none⟩=some (.pointer none):=cz hz
      have z1:=Lib.frozen_of_heap hz 1
      have y2:u5b.cell? ⟨M,2,none⟩=some (.pointer none):=cz hz
      have z2:=Lib.frozen_of_heap hz 2
      have y3:u5b.cell? ⟨M,3,none⟩=some (.pointer none):=cz hz
      have z3:=Lib.frozen_of_heap hz 3
      have y4:u5b.cell? ⟨M,4,none⟩=some (.pointer none):=cz hz
      have z4:=Lib.frozen_of_heap hz 4
      have HFIN:Hid (WZ.heap[M]? = some (.cells #[.pointer (some ⟨hd,0,none⟩),.pointer (some ⟨hs,0,none⟩),.pointer (some ⟨hc,0,none⟩),.pointer (some ⟨hq,0,none⟩),.pointer (some ⟨ht,0,none⟩)] 144 (0,0))∧(∃c,PB N (newQ N hd hs hc hq ht tr fi) WZ c)∧Below V.heap.size V WZ):=by
       refine ⟨hbz,?_,HBu5b.out.trans (fz.below HBu5b.out.size fun k hk=>by have:=HMu5b.out;omega)⟩
       exact PBz.box HPu5b.out fz (fun p e=>by rw [e];rfl)
      have hSz:=HS.out WZ HFIN.out.2.2
      clear hbz fz hz
      refine wpAnyH_ready (rs:=[11]) (by kernel_rfl) (by simp) ?_
      refine AllReadyH.cons (at_drop0 rfl) (fun K hK=>?_) AllReadyH.nil
      rw [if_pos (by rfl)]
      go_simp
      go_wp2_with fail
      try rw [hWZ]
      refine hK.out _ _ hSz (fun hHeld=>?_)
      clear hK K
      try simp only [Act.put,sz]
      clear hSz
      refine wpAnyH_done (by kernel_rfl) ?_ _
      clear y0 y1 y2 y3 y4 z0 z1 z2 z3 z4 hWZ
      go_wp2_with fail
      go_meet
      exact ⟨M,hd,hs,hc,hq,ht,rfl,HFIN.out⟩
    ·rw [if_pos (by rfl)]
     go_simp
     obtain ⟨M,hM⟩:∃M,u1.heap.size=M:=⟨_,rfl⟩
     obtain ⟨x1,hx1⟩:∃x1,u1.alloc (.cells #[.pointer none,.pointer none,.pointer none,.pointer none,.pointer none] 144)=x1:=⟨_,rfl⟩
     have hal:Below u1.heap.size u1 x1:=by rw [←hx1];exact (Below.refl _ _).alloc (Nat.le_refl _) _
     have hmb:x1.heap[M]? = some (.cells #[.pointer none,.pointer none,.pointer none,.pointer none,.pointer none] 144 (0,0)):=by rw [←hx1,←hM];exact heap_alloc_new u1 _
     have HMx1:Hid (x1.heap[M]? = some (.cells #[.pointer none,.pointer none,.pointer none,.pointer none,.pointer none] 144 (0,0))∧V.heap.size≤M∧M<x1.heap.size):=⟨hmb,by rw [←hM];exact HBu1.out.size,(Array.getElem?_eq_some_iff.1 hmb).1⟩
     have HPx1:Hid (PBz N (addQ (fun _=>noneP) 2 (dirP N hd 0 [])) x1 (fun k=>k=M)):=by obtain ⟨c,q,_⟩:=HPu1.out;exact ⟨c,q.on hal,fun k hk=>by rw [hk,←hM];exact q.out _ (Nat.le_refl _)⟩
     have HBx1:Hid (Below V.heap.size V x1):=bel_then HBu1.out HBu1.out.size hal
     have hSx1:=HS.out x1 HBx1.out
     clear hal hmb
     go_wp2_with fail
     try rw [hM]
     try rw [hx1]
     refine hK.out _ _ hSx1 (fun hHeld=>?_)
     clear hK K
     try simp only [Act.put,sz]
     clear hSx1 hM hx1
     refine wpAnyH_ready (rs:=[3]) (by kernel_rfl) (by simp) ?_
     refine AllReadyH.cons (at_drop0 rfl) (fun K hK=>?_) AllReadyH.nil
     rw [if_pos (by rfl)]
     go_simp
     refine (HSN.out (addQ (fun _=>noneP) 2 (dirP N hd 0 [])) (fun k=>k=M) x1 HPx1.out (fun k hk=>by rw [hk];exact HMx1.out.2.2) HBx1.out).mono ?_
     rintro e1 u2b ⟨hs,rfl,hp1,hb1⟩
     have HPu2b:Hid (PBz N (addQ (addQ (fun _=>noneP) 2 (dirP N hd 0 [])) 5 (objP N hs [.int .u64 fi] 209)) u2b (fun k=>k=M)):=hp1
     have HBu2b:Hid (Below V.heap.size V u2b):=bel_then HBx1.out HBx1.out.size hb1
     have hSu2b:=HS.out u2b HBu2b.out
     have HMu2b:Hid (u2b.heap[M]? = some (.cells #[.pointer none,.pointer none,.pointer none,.pointer none,.pointer none] 144 (0,0))∧V.heap.size≤M∧M<u2b.heap.size):=⟨(hb1.block M HMx1.out.2.2).trans HMx1.out.1,HMx1.out.2.1,Nat.lt_of_lt_of_le HMx1.out.2.2 hb1.size⟩
     clear hp1 hb1
     go_wp2_with fail
     refine hK.out _ _ hSu2b (fun hHeld=>?_)
     clear hK K
     try simp only [Act.put,sz]
     clear hSu2b
     refine wpAnyH_ready (rs:=[4]) (by kernel_rfl) (by simp) ?_
     refine AllReadyH.cons (at_drop0 rfl) (fun K hK=>?_) AllReadyH.nil
     rw [if_pos (by rfl)]
     go_simp
     refine (HCK.out (addQ (addQ (fun _=>noneP) 2 (dirP N hd 0 [])) 5 (objP N hs [.int .u64 fi] 209)) (fun k=>k=M) u2b HPu2b.out (fun k hk=>by rw [hk];exact HMu2b.out.2.2) HBu2b.out).mono ?_
     rintro e2 u3b ⟨hc,rfl,hp2,hb2⟩
     have HPu3b:Hid (PBz N (addQ (addQ (addQ (fun _=>noneP) 2 (dirP N hd 0 [])) 5 (objP N hs [.int .u64 fi] 209)) 6 (objP N hc [.int .i64 0] 214)) u3b (fun k=>k=M)):=hp2
     have HBu3b:Hid (Below V.heap.size V u3b):=bel_then HBu2b.out HBu2b.out.size hb2
     have hSu3b:=HS.out u3b HBu3b.out
     have HMu3b:Hid (u3b.heap[M]? = some (.cells #[.pointer none,.pointer none,.pointer none,.pointer none,.pointer none] 144 (0,0))∧V.heap.size≤M∧M<u3b.heap.size):=⟨(hb2.block M HMu2b.out.2.2).trans HMu2b.out.1,HMu2b.out.2.1,Nat.lt_of_lt_of_le HMu2b.out.2.2 hb2.size⟩
     clear hp2 hb2
     go_wp2_with fail
     refine hK.out _ _ hSu3b (fun hHeld=>?_)
     clear hK K
     try simp only [Act.put,sz]
     clear hSu3b
     refine wpAnyH_ready (rs:=[5]) (by kernel_rfl) (by simp) ?_
     refine AllReadyH.cons (at_drop0 rfl) (fun K hK=>?_) AllReadyH.nil
     rw [if_pos (by rfl)]
     go_simp
     refine (HQN.out (addQ (addQ (addQ (fun _=>noneP) 2 (dirP N hd 0 [])) 5 (objP N hs [.int .u64 fi] 209)) 6 (objP N hc [.int .i64 0] 214)) (fun k=>k=M) u3b HPu3b.out (fun k hk=>by rw [hk];exact HMu3b.out.2.2) HBu3b.out).mono ?_
     rintro e3 u4b ⟨hq,rfl,hp3,hb3⟩
     have HPu4b:Hid (PBz N (addQ (addQ (addQ (addQ (fun _=>noneP) 2 (dirP N hd 0 [])) 5 (objP N hs [.int .u64 fi] 209)) 6 (objP N hc [.int .i64 0] 214)) 4 (snpP N hq [] 0)) u4b (fun k=>k=M)):=hp3
     have HBu4b:Hid (Below V.heap.size V u4b):=bel_then HBu3b.out HBu3b.out.size hb3
     have hSu4b:=HS.out u4b HBu4b.out
     have HMu4b:Hid (u4b.heap[M]? = some (.cells #[.pointer none,.pointer none,.pointer none,.pointer none,.pointer none] 144 (0,0))∧V.heap.size≤M∧M<u4b.heap.size):=⟨(hb3.block M HMu3b.out.2.2).trans HMu3b.out.1,HMu3b.out.2.1,Nat.lt_of_lt_of_le HMu3b.out.2.2 hb3.size⟩
     clear hp3 hb3
     go_wp2_with fail
     refine hK.out _ _ hSu4b (fun hHeld=>?_)
     clear hK K
     try simp only [Act.put,sz]
     clear hSu4b
     refine wpAnyH_ready (rs:=[8]) (by kernel_rfl) (by simp) ?_
     refine AllReadyH.cons (at_drop0 rfl) (fun K hK=>?_) AllReadyH.nil
     rw [if_pos (by rfl)]
     go_simp
     refine (HTN.out (addQ (addQ (addQ (addQ (fun _=>noneP) 2 (dirP N hd 0 [])) 5 (objP N hs [.int .u64 fi] 209)) 6 (objP N hc [.int .i64 0] 214)) 4 (snpP N hq [] 0)) (fun k=>k=M) u4b HPu4b.out (fun k hk=>by rw [hk];exact HMu4b.out.2.2) HBu4b.out).mono ?_
     rintro e4 u5b ⟨ht,rfl,hp4,hb4⟩
     have HPu5b:Hid (PBz N (addQ (addQ (addQ (addQ (addQ (fun _=>noneP) 2 (dirP N hd 0 [])) 5 (objP N hs [.int .u64 fi] 209)) 6 (objP N hc [.int .i64 0] 214)) 4 (snpP N hq [] 0)) 3 (trkP N ht (newT tr))) u5b (fun k=>k=M)):=hp4
     have HBu5b:Hid (Below V.heap.size V u5b):=bel_then HBu4b.out HBu4b.out.size hb4
     have hSu5b:=HS.out u5b HBu5b.out
     have HMu5b:Hid (u5b.heap[M]? = some (.cells #[.pointer none,.pointer none,.pointer none,.pointer none,.pointer none] 144 (0,0))∧V.heap.size≤M∧M<u5b.heap.size):=⟨(hb4.block M HMu4b.out.2.2).trans HMu4b.out.1,HMu4b.out.2.1,Nat.lt_of_lt_of_le HMu4b.out.2.2 hb4.size⟩
     clear hp4 hb4
     go_wp2_with fail
     refine hK.out _ _ hSu5b (fun hHeld=>?_)
     clear hK K
     try simp only [Act.put,sz]
     clear hSu5b
     refine tkv 9 (.agg #[.pointer (some ⟨hd,0,none⟩),.pointer (some ⟨hs,0,none⟩),.pointer (some ⟨hc,0,none⟩),.pointer (some ⟨hq,0,none⟩),.pointer (some ⟨ht,0,none⟩)]) hHeld ?_
     simp only [Act.put,sz]
     have hz:=HMu5b.out.1
     obtain ⟨WZ,hWZ⟩:∃WZ,(((((u5b.setCell ⟨M,0,none⟩ (.pointer (some ⟨hd,0,none⟩))).setCell ⟨M,1,none⟩ (.pointer (some ⟨hs,0,none⟩))).setCell ⟨M,2,none⟩ (.pointer (some ⟨hc,0,none⟩))).setCell ⟨M,3,none⟩ (.pointer (some ⟨hq,0,none⟩))).setCell ⟨M,4,none⟩ (.pointer (some ⟨ht,0,none⟩)))=WZ:=⟨_,rfl⟩
     have hbz:WZ.heap[M]? = some (.cells #[.pointer (some ⟨hd,0,none⟩),.pointer (some ⟨hs,0,none⟩),.pointer (some ⟨hc,0,none⟩),.pointer (some ⟨hq,0,none⟩),.pointer (some ⟨ht,0,none⟩)] 144 (0,0)):=by
      rw [←hWZ]
      exact heap_setCell_same _ M 4 _ _ _ (heap_setCell_same _ M 3 _ _ _ (heap_setCell_same _ M 2 _ _ _ (heap_setCell_same _ M 1 _ _ _ (heap_setCell_same _ M 0 _ _ _ hz))))
     have fz:Fr (fun b=>b=M) u5b WZ:=by
      rw [←hWZ]
      exact ((((fr_set5 u5b M 0 _).then (fr_set5 _ M 1 _) fun k hk=>Or.inl hk).then (fr_set5 _ M 2 _) fun k hk=>Or.inl hk).then (fr_set5 _ M 3 _) fun k hk=>Or.inl hk).then (fr_set5 _ M 4 _) fun k hk=>Or.inl hk
     have y0:u5b.cell? ⟨M,0,none⟩=some (.pointer none):=cz hz
     have z0:=Lib.frozen_of_heap hz 0
     have y1:u5b.cell? ⟨M,1,none⟩=some (.pointer none):=cz hz
     have z1:=Lib.frozen_of_heap hz 1
     have y2:u5b.cell? ⟨M,2,none⟩=some (.pointer none):=cz hz
     have z2:=Lib.frozen_of_heap hz 2
     have y3:u5b.cell? ⟨M,3,none⟩=some (.pointer none):=cz hz
     have z3:=Lib.frozen_of_heap hz 3
     have y4:u5b.cell? ⟨M,4,none⟩=some (.pointer none):=cz hz
     have z4:=Lib.frozen_of_heap hz 4
     have HFIN:Hid (WZ.heap[M]? = some (.cells #[.pointer (some ⟨hd,0,none⟩),.pointer (some ⟨hs,0,none⟩),.pointer (some ⟨hc,0,none⟩),.pointer (some ⟨hq,0,none⟩),.pointer (some ⟨ht,0,none⟩)] 144 (0,0))∧(∃c,PB N (newQ N hd hs hc hq ht tr fi) WZ c)∧Below V.heap.size V WZ):=by
      refine ⟨hbz,?_,HBu5b.out.trans (fz.below HBu5b.out.size fun k hk=>by have:=HMu5b.out;omega)⟩
      exact PBz.box HPu5b.out fz (fun p e=>by rw [e];rfl)
     have hSz:=HS.out WZ HFIN.out.2.2
     clear hbz fz hz
     refine wpAnyH_ready (rs:=[11]) (by kernel_rfl) (by simp) ?_
     refine AllReadyH.cons (at_drop0 rfl) (fun K hK=>?_) AllReadyH.nil
     rw [if_pos (by rfl)]
     go_simp
     go_wp2_with fail
     try rw [hWZ]
     refine hK.out _ _ hSz (fun hHeld=>?_)
     clear hK K
     try simp only [Act.put,sz]
     clear hSz
     refine wpAnyH_done (by kernel_rfl) ?_ _
     clear y0 y1 y2 y3 y4 z0 z1 z2 z3 z4 hWZ
     go_wp2_with fail
     go_meet
     exact ⟨M,hd,hs,hc,hq,ht,rfl,HFIN.out⟩
   ·rw [if_pos (by rfl)]
    go_simp
    obtain ⟨M,hM⟩:∃M,u0.heap.size=M:=⟨_,rfl⟩
    obtain ⟨x0,hx0⟩:∃x0,u0.alloc (.cells #[.pointer none,.pointer none,.pointer none,.pointer none,.pointer none] 144)=x0:=⟨_,rfl⟩
    have hal:Below u0.heap.size u0 x0:=by rw [←hx0];exact (Below.refl _ _).alloc (Nat.le_refl _) _
    have hmb:x0.heap[M]? = some (.cells #[.pointer none,.pointer none,.pointer none,.pointer none,.pointer none] 144 (0,0)):=by rw [←hx0,←hM];exact heap_alloc_new u0 _
    have HMx0:Hid (x0.heap[M]? = some (.cells #[.pointer none,.pointer none,.pointer none,.pointer none,.pointer none] 144 (0,0))∧V.heap.size≤M∧M<x0.heap.size):=⟨hmb,by rw [←hM];exact HB0.out.size,(Array.getElem?_eq_some_iff.1 hmb).1⟩
    have HPx0:Hid (PBz N (fun _=>noneP) x0 (fun k=>k=M)):=by obtain ⟨c,q,_⟩:=HP0.out;exact ⟨c,q.on hal,fun k hk=>by rw [hk,←hM];exact q.out _ (Nat.le_refl _)⟩
    have HBx0:Hid (Below V.heap.size V x0):=bel_then HB0.out HB0.out.size hal
    have hSx0:=HS.out x0 HBx0.out
    clear hal hmb
    go_wp2_with fail
    try rw [hM]
    try rw [hx0]
    refine hK.out _ _ hSx0 (fun hHeld=>?_)
    clear hK K
    try simp only [Act.put,sz]
    clear hSx0 hM hx0
    refine wpAnyH_ready (rs:=[0]) (by kernel_rfl) (by simp) ?_
    refine AllReadyH.cons (at_drop0 rfl) (fun K hK=>?_) AllReadyH.nil
    rw [if_pos (by rfl)]
    go_simp
    refine (HD.out (fun _=>noneP) (fun k=>k=M) x0 HPx0.out (fun k hk=>by rw [hk];exact HMx0.out.2.2) HBx0.out).mono ?_
    rintro e0 u1b ⟨hd,rfl,hp0,hb0⟩
    have HPu1b:Hid (PBz N (addQ (fun _=>noneP) 2 (dirP N hd 0 [])) u1b (fun k=>k=M)):=hp0
    have HBu1b:Hid (Below V.heap.size V u1b):=bel_then HBx0.out HBx0.out.size hb0
    have hSu1b:=HS.out u1b HBu1b.out
    have HMu1b:Hid (u1b.heap[M]? = some (.cells #[.pointer none,.pointer none,.pointer none,.pointer none,.pointer none] 144 (0,0))∧V.heap.size≤M∧M<u1b.heap.size):=⟨(hb0.block M HMx0.out.2.2).trans HMx0.out.1,HMx0.out.2.1,Nat.lt_of_lt_of_le HMx0.out.2.2 hb0.size⟩
    clear hp0 hb0
    go_wp2_with fail
    refine hK.out _ _ hSu1b (fun hHeld=>?_)
    clear hK K
    try simp only [Act.put,sz]
    clear hSu1b
    refine wpAnyH_ready (rs:=[3]) (by kernel_rfl) (by simp) ?_
    refine AllReadyH.cons (at_drop0 rfl) (fun K hK=>?_) AllReadyH.nil
    rw [if_pos (by rfl)]
    go_simp
    refine (HSN.out (addQ (fun _=>noneP) 2 (dirP N hd 0 [])) (fun k=>k=M) u1b HPu1b.out (fun k hk=>by rw [hk];exact HMu1b.out.2.2) HBu1b.out).mono ?_
    rintro e1 u2b ⟨hs,rfl,hp1,hb1⟩
    have HPu2b:Hid (PBz N (addQ (addQ (fun _=>noneP) 2 (dirP N hd 0 [])) 5 (objP N hs [.int .u64 fi] 209)) u2b (fun k=>k=M)):=hp1
    have HBu2b:Hid (Below V.heap.size V u2b):=bel_then HBu1b.out HBu1b.out.size hb1
    have hSu2b:=HS.out u2b HBu2b.out
    have HMu2b:Hid (u2b.heap[M]? = some (.cells #[.pointer none,.pointer none,.pointer none,.pointer none,.pointer none] 144 (0,0))∧V.heap.size≤M∧M<u2b.heap.size):=⟨(hb1.block M HMu1b.out.2.2).trans HMu1b.out.1,HMu1b.out.2.1,Nat.lt_of_lt_of_le HMu1b.out.2.2 hb1.size⟩
    clear hp1 hb1
    go_wp2_with fail
    refine hK.out _ _ hSu2b (fun hHeld=>?_)
    clear hK K
    try simp only [Act.put,sz]
    clear hSu2b
    refine wpAnyH_ready (rs:=[4]) (by kernel_rfl) (by simp) ?_
    refine AllReadyH.cons (at_drop0 rfl) (fun K hK=>?_) AllReadyH.nil
    rw [if_pos (by rfl)]
    go_simp
    refine (HCK.out (addQ (addQ (fun _=>noneP) 2 (dirP N hd 0 [])) 5 (objP N hs [.int .u64 fi] 209)) (fun k=>k=M) u2b HPu2b.out (fun k hk=>by rw [hk];exact HMu2b.out.2.2) HBu2b.out).mono ?_
    rintro e2 u3b ⟨hc,rfl,hp2,hb2⟩
    have HPu3b:Hid (PBz N (addQ (addQ (addQ (fun _=>noneP) 2 (dirP N hd 0 [])) 5 (objP N hs [.int .u64 fi] 209)) 6 (objP N hc [.int .i64 0] 214)) u3b (fun k=>k=M)):=hp2
    have HBu3b:Hid (Below V.heap.size V u3b):=bel_then HBu2b.out HBu2b.out.size hb2
    have hSu3b:=HS.out u3b HBu3b.out
    have HMu3b:Hid (u3b.heap[M]? = some (.cells #[.pointer none,.pointer none,.pointer none,.pointer none,.pointer none] 144 (0,0))∧V.heap.size≤M∧M<u3b.heap.size):=⟨(hb2.block M HMu2b.out.2.2).trans HMu2b.out.1,HMu2b.out.2.1,Nat.lt_of_lt_of_le HMu2b.out.2.2 hb2.size⟩
    clear hp2 hb2
    go_wp2_with fail
    refine hK.out _ _ hSu3b (fun hHeld=>?_)
    clear hK K
    try simp only [Act.put,sz]
    clear hSu3b
    refine wpAnyH_ready (rs:=[5]) (by kernel_rfl) (by simp) ?_
    refine AllReadyH.cons (at_drop0 rfl) (fun K hK=>?_) AllReadyH.nil
    rw [if_pos (by rfl)]
    go_simp
    refine (HQN.out (addQ (addQ (addQ (fun _=>noneP) 2 (dirP N hd 0 [])) 5 (objP N hs [.int .u64 fi] 209)) 6 (objP N hc [.int .i64 0] 214)) (fun k=>k=M) u3b HPu3b.out (fun k hk=>by rw [hk];exact HMu3b.out.2.2) HBu3b.out).mono ?_
    rintro e3 u4b ⟨hq,rfl,hp3,hb3⟩
    have HPu4b:Hid (PBz N (addQ (addQ (addQ (addQ (fun _=>noneP) 2 (dirP N hd 0 [])) 5 (objP N hs [.int .u64 fi] 209)) 6 (objP N hc [.int .i64 0] 214)) 4 (snpP N hq [] 0)) u4b (fun k=>k=M)):=hp3
    have HBu4b:Hid (Below V.heap.size V u4b):=bel_then HBu3b.out HBu3b.out.size hb3
    have hSu4b:=HS.out u4b HBu4b.out
    have HMu4b:Hid (u4b.heap[M]? = some (.cells #[.pointer none,.pointer none,.pointer none,.pointer none,.pointer none] 144 (0,0))∧V.heap.size≤M∧M<u4b.heap.size):=⟨(hb3.block M HMu3b.out.2.2).trans HMu3b.out.1,HMu3b.out.2.1,Nat.lt_of_lt_of_le HMu3b.out.2.2 hb3.size⟩
    clear hp3 hb3
    go_wp2_with fail
    refine hK.out _ _ hSu4b (fun hHeld=>?_)
    clear hK K
    try simp only [Act.put,sz]
    clear hSu4b
    refine wpAnyH_ready (rs:=[8]) (by kernel_rfl) (by simp) ?_
    refine AllReadyH.cons (at_drop0 rfl) (fun K hK=>?_) AllReadyH.nil
    rw [if_pos (by rfl)]
    go_simp
    refine (HTN.out (addQ (addQ (addQ (addQ (fun _=>noneP) 2 (dirP N hd 0 [])) 5 (objP N hs [.int .u64 fi] 209)) 6 (objP N hc [.int .i64 0] 214)) 4 (snpP N hq [] 0)) (fun k=>k=M) u4b HPu4b.out (fun k hk=>by rw [hk];exact HMu4b.out.2.2) HBu4b.out).mono ?_
    rintro e4 u5b ⟨ht,rfl,hp4,hb4⟩
    have HPu5b:Hid (PBz N (addQ (addQ (addQ (addQ (addQ (fun _=>noneP) 2 (dirP N hd 0 [])) 5 (objP N hs [.int .u64 fi] 209)) 6 (objP N hc [.int .i64 0] 214)) 4 (snpP N hq [] 0)) 3 (trkP N ht (newT tr))) u5b (fun k=>k=M)):=hp4
    have HBu5b:Hid (Below V.heap.size V u5b):=bel_then HBu4b.out HBu4b.out.size hb4
    have hSu5b:=HS.out u5b HBu5b.out
    have HMu5b:Hid (u5b.heap[M]? = some (.cells #[.pointer none,.pointer none,.pointer none,.pointer none,.pointer none] 144 (0,0))∧V.heap.size≤M∧M<u5b.heap.size):=⟨(hb4.block M HMu4b.out.2.2).trans HMu4b.out.1,HMu4b.out.2.1,Nat.lt_of_lt_of_le HMu4b.out.2.2 hb4.size⟩
    clear hp4 hb4
    go_wp2_with fail
    refine hK.out _ _ hSu5b (fun hHeld=>?_)
    clear hK K
    try simp only [Act.put,sz]
    clear hSu5b
    refine tkv 9 (.agg #[.pointer (some ⟨hd,0,none⟩),.pointer (some ⟨hs,0,none⟩),.pointer (some ⟨hc,0,none⟩),.pointer (some ⟨hq,0,none⟩),.pointer (some ⟨ht,0,none⟩)]) hHeld ?_
    simp only [Act.put,sz]
    have hz:=HMu5b.out.1
    obtain ⟨WZ,hWZ⟩:∃WZ,(((((u5b.setCell ⟨M,0,none⟩ (.pointer (some ⟨hd,0,none⟩))).setCell ⟨M,1,none⟩ (.pointer (some ⟨hs,0,none⟩))).setCell ⟨M,2,none⟩ (.pointer (some ⟨hc,0,none⟩))).setCell ⟨M,3,none⟩ (.pointer (some ⟨hq,0,none⟩))).setCell ⟨M,4,none⟩ (.pointer (some ⟨ht,0,none⟩)))=WZ:=⟨_,rfl⟩
    have hbz:WZ.heap[M]? = some (.cells #[.pointer (some ⟨hd,0,none⟩),.pointer (some ⟨hs,0,none⟩),.pointer (some ⟨hc,0,none⟩),.pointer (some ⟨hq,0,none⟩),.pointer (some ⟨ht,0,none⟩)] 144 (0,0)):=by
     rw [←hWZ]
     exact heap_setCell_same _ M 4 _ _ _ (heap_setCell_same _ M 3 _ _ _ (heap_setCell_same _ M 2 _ _ _ (heap_setCell_same _ M 1 _ _ _ (heap_setCell_same _ M 0 _ _ _ hz))))
    have fz:Fr (fun b=>b=M) u5b WZ:=by
     rw [←hWZ]
     exact ((((fr_set5 u5b M 0 _).then (fr_set5 _ M 1 _) fun k hk=>Or.inl hk).then (fr_set5 _ M 2 _) fun k hk=>Or.inl hk).then (fr_set5 _ M 3 _) fun k hk=>Or.inl hk).then (fr_set5 _ M 4 _) fun k hk=>Or.inl hk
    have y0:u5b.cell? ⟨M,0,none⟩=some (.pointer none):=cz hz
    have z0:=Lib.frozen_of_heap hz 0
    have y1:u5b.cell? ⟨M,1,none⟩=some (.pointer none):=cz hz
    have z1:=Lib.frozen_of_heap hz 1
    have y2:u5b.cell? ⟨M,2,none⟩=some (.pointer none):=cz hz
    have z2:=Lib.frozen_of_heap hz 2
    have y3:u5b.cell? ⟨M,3,none⟩=some (.pointer none):=cz hz
    have z3:=Lib.frozen_of_heap hz 3
    have y4:u5b.cell? ⟨M,4,none⟩=some (.pointer none):=cz hz
    have z4:=Lib.frozen_of_heap hz 4
    have HFIN:Hid (WZ.heap[M]? = some (.cells #[.pointer (some ⟨hd,0,none⟩),.pointer (some ⟨hs,0,none⟩),.pointer (some ⟨hc,0,none⟩),.pointer (some ⟨hq,0,none⟩),.pointer (some ⟨ht,0,none⟩)] 144 (0,0))∧(∃c,PB N (newQ N hd hs hc hq ht tr fi) WZ c)∧Below V.heap.size V WZ):=by
     refine ⟨hbz,?_,HBu5b.out.trans (fz.below HBu5b.out.size fun k hk=>by have:=HMu5b.out;omega)⟩
     exact PBz.box HPu5b.out fz (fun p e=>by rw [e];rfl)
    have hSz:=HS.out WZ HFIN.out.2.2
    clear hbz fz hz
    refine wpAnyH_ready (rs:=[11]) (by kernel_rfl) (by simp) ?_
    refine AllReadyH.cons (at_drop0 rfl) (fun K hK=>?_) AllReadyH.nil
    rw [if_pos (by rfl)]
    go_simp
    go_wp2_with fail
    try rw [hWZ]
    refine hK.out _ _ hSz (fun hHeld=>?_)
    clear hK K
    try simp only [Act.put,sz]
    clear hSz
    refine wpAnyH_done (by kernel_rfl) ?_ _
    clear y0 y1 y2 y3 y4 z0 z1 z2 z3 z4 hWZ
    go_wp2_with fail
    go_meet
    exact ⟨M,hd,hs,hc,hq,ht,rfl,HFIN.out⟩
  case rest =>
   obtain ⟨M,hd,hs,hc,hq,ht,rfl,HC⟩:=hcut
   obtain ⟨hm,hpb,hbc⟩:=HC.out
   obtain ⟨k0,_,_,_⟩:=HS.out wc hbc
   have m0:wc.cell? ⟨M,0,none⟩=some (.pointer (some ⟨hd,0,none⟩)):=cz hm
   have m1:wc.cell? ⟨M,1,none⟩=some (.pointer (some ⟨hs,0,none⟩)):=cz hm
   have m2:wc.cell? ⟨M,2,none⟩=some (.pointer (some ⟨hc,0,none⟩)):=cz hm
   have m3:wc.cell? ⟨M,3,none⟩=some (.pointer (some ⟨hq,0,none⟩)):=cz hm
   have m4:wc.cell? ⟨M,4,none⟩=some (.pointer (some ⟨ht,0,none⟩)):=cz hm
   obtain ⟨w',hw'⟩:∃w',wc.alloc (.cells #[.pointer (some ⟨hd,0,none⟩),.pointer (some ⟨hs,0,none⟩),.pointer (some ⟨hc,0,none⟩),.pointer (some ⟨hq,0,none⟩),.pointer (some ⟨ht,0,none⟩),.int .i64 ve] 146)=w':=⟨_,rfl⟩
   have HF:=hid (HOK.out wc w' hd hs hc hq ht hpb hbc hw')
   clear hm hpb hbc HC HOK HS c0 c1 c2 c3
   go_wp2_with fail
   try rw [hw']
   go_ret2
   exact HF.out
 ·have hr':rightS ve tr ti=false:=by simpa using hr
  have HN2:=hid (HNO.out hr')
  rw [hrt] at hr'
  clear HNO hr hrt HD HSN HCK HQN HTN HNV HNVs HS
  cases e1:swithin ve 1 4096 with
  | false =>
   rw [e1] at HW1
   clear hr'
   go_enter Tryz.func14,Tryz.ntmps14
   go_upto_region 1 with fail
   try rw [hV]
   try rw [hQ]
   clear hV hQ
   go_wp2_with fail
   refine HW1.out.mono ?_
   rintro ea V ⟨rfl,rfl⟩
   go_wp2_with fail
   go_ret2
   exact HN2.out
  | true =>
   rw [e1] at HW1
   cases e2:swithin tr 0 64 with
   | false =>
    rw [e2] at HW2
    clear hr'
    go_enter Tryz.func14,Tryz.ntmps14
    go_upto_region 1 with fail
    try rw [hV]
    try rw [hQ]
    clear hV hQ
    go_wp2_with fail
    refine HW1.out.mono ?_
    rintro ea V ⟨rfl,rfl⟩
    go_wp2_with fail
    refine HW2.out.mono ?_
    rintro eb V ⟨rfl,rfl⟩
    go_wp2_with fail
    go_ret2
    exact HN2.out
   | true =>
    rw [e2] at HW2
    have e3:swithin ti 1 8=false:=by
     rw [e1,e2] at hr'
     simpa using hr'
    rw [e3] at HW3
    clear hr'
    go_enter Tryz.func14,Tryz.ntmps14
    go_upto_region 1 with fail
    try rw [hV]
    try rw [hQ]
    clear hV hQ
    go_wp2_with fail
    refine HW1.out.mono ?_
    rintro ea V ⟨rfl,rfl⟩
    go_wp2_with fail
    refine HW2.out.mono ?_
    rintro eb V ⟨rfl,rfl⟩
    go_wp2_with fail
    refine HW3.out.mono ?_
    rintro ed V ⟨rfl,rfl⟩
    go_wp2_with fail
    go_ret2
    exact HN2.out
end
section
open Go.RowKit
theorem ownJ_none (N:Nat) (W:World):OwnJ N W (.slice none 0 0) []:=own_noneX N W
theorem fitX_none:FitX []:=(may_fit (o:=[]) may_nil).1
set_option linter.unusedSimpArgs false in
set_option maxHeartbeats 8000000 in
set_option maxRecDepth 100000 in
theorem xread_any {n0 nr:Nat} {W:World} {s:Ps} {c:Nat→Nat} (x:PrgB n0 W s c) (f:FitS nr s) (hn:nr≤2000000000000) {i:Nat} {y:Px} (hy:s.xs[i]? = some y) (k:Ky) (hk:FitKy12 k) :
  Calls Tryz.prog 31 #[.pointer (some ⟨y.g,0,none⟩),.agg #[.string k.1,.string k.2]] W fun e w'=>XsV n0 (nr+1) W s.h (s.xs.map Px.g) c (readS s.D y.tx k).1 (setS s.sv i (readS s.D y.tx k).2) e w':=by
 obtain ⟨hb0,h1,h2,hsz⟩:=two_boxes5 W #[.string k.1,.string k.2] #[.int .i64 0,.int .u64 0,.int .i64 0,.bool false,.slice none 0 0] 39 46
 obtain ⟨V,hV⟩:∃V,(W.alloc (.cells #[.string k.1,.string k.2] 39)).alloc (.cells #[.int .i64 0,.int .u64 0,.int .i64 0,.bool false,.slice none 0 0] 46)=V:=⟨_,rfl⟩
 obtain ⟨Q,hQ⟩:∃Q,W.heap.size=Q:=⟨_,rfl⟩
 rw [hV] at hb0 h1 h2 hsz
 rw [hQ] at h1 h2 hsz
 have HV:=hid hb0
 have HSZ:Hid (V.heap.size=Q+2):=hsz
 have HQQ:Hid (W.heap.size=Q):=hQ
 have HX:=hid x
 have HF:=hid f
 have HY:=hid hy
 have HK:=hid hk
 have HN:=hid hn
 have HBX:Hid (∀W':World,(∀b,b=Q∨b=Q+1→W'.heap[b]? = V.heap[b]?)→(W'.cell? ⟨Q,0,none⟩=some (.string k.1)∧W'.cell? ⟨Q,1,none⟩=some (.string k.2))∧W'.heap[Q+1]? = some (.cells #[.int .i64 0,.int .u64 0,.int .i64 0,.bool false,.slice none 0 0] 46 (0,0))):=fun W' hW=>by
  have q1:=(hW Q (Or.inl rfl)).trans h1
  have q2:=(hW (Q+1) (Or.inr rfl)).trans h2
  exact ⟨⟨by rw [Lib.cell_of_heap q1];rfl,by rw [Lib.cell_of_heap q1];rfl⟩,q2⟩
 obtain ⟨⟨a0,a1⟩,_⟩:=HBX.out V fun _ _=>rfl
 have HRE:=hid (xrefused_any ((x.on hb0).endis hy) k hk)
 obtain ⟨RS,hRS⟩:∃RS,readS s.D y.tx k=RS:=⟨_,rfl⟩
 rw [hRS]
 have HRS:=hid hRS
 clear x f hk hn h1 h2 hb0 hsz hRS
 obtain ⟨ka,kb⟩:=k
 simp only at *
 have HC12:Hid (y.ended=true→refS y.ended (ka,kb)=12∧RS=((none,12),y.tx)):=fun h=>by
  refine ⟨by rw [h];rfl,?_⟩
  rw [←HRS.out]
  unfold readS
  rw [if_pos (show y.tx.ended=true from h)]
 have HC2:Hid (y.ended=false→keyB ka kb=false→refS y.ended (ka,kb)=2∧RS=((none,2),y.tx)):=fun h h'=>by
  refine ⟨by rw [h];unfold refS;simp [h'],?_⟩
  rw [←HRS.out]
  unfold readS
  rw [if_neg (show ¬ y.tx.ended=true by show ¬ y.ended=true;rw [h];decide),if_pos h']
 have HC0:Hid (y.ended=false→keyB ka kb=true→refS y.ended (ka,kb)=0∧RS=((isS s.D y.tx (ka,kb),if (isS s.D y.tx (ka,kb)).isSome then 0 else 6),tagK y.tx (ka,kb))):=fun h h'=>by
  refine ⟨by rw [h];unfold refS;simp [h'],?_⟩
  rw [←HRS.out]
  unfold readS
  rw [if_neg (show ¬ y.tx.ended=true by show ¬ y.ended=true;rw [h];decide),if_neg (by show ¬ keyB ka kb=false;rw [h'];decide)]
 obtain ⟨EN,hEN⟩:∃EN,y.ended=EN:=⟨_,rfl⟩
 obtain ⟨KB,hKB⟩:∃KB,keyB ka kb=KB:=⟨_,rfl⟩
 have HEN:=hid hEN
 rw [hEN] at HRE HC12 HC2 HC0
 rw [hKB] at HC2 HC0
 obtain ⟨g,hg⟩:∃g,y.g=g:=⟨_,rfl⟩
 rw [hg] at HRE ⊢
 clear hEN hKB hy
 have refuse:EN=true∨KB=false→Calls Tryz.prog 31 #[.pointer (some ⟨g,0,none⟩),.agg #[.string ka,.string kb]] W fun e w'=>XsV n0 (nr+1) W s.h (s.xs.map Px.g) c RS.1 (setS s.sv i RS.2) e w':=fun hor=>by
  obtain ⟨cd,hcd,hne,hrs⟩:∃cd:Int,refS EN (ka,kb)=cd∧cd≠0∧RS=((none,cd),y.tx):=by
   cases hE:EN with
   | true =>
    obtain ⟨q1,q2⟩:=HC12.out hE
    rw [hE] at q1
    exact ⟨12,q1,by decide,q2⟩
   | false =>
    rcases hor with h|h
    ·rw [hE] at h;cases h
    ·obtain ⟨q1,q2⟩:=HC2.out hE h
     rw [hE] at q1
     exact ⟨2,q1,by decide,q2⟩
  have HRR:Hid (RS=((none,cd),y.tx)):=hrs
  rw [hcd] at HRE
  have hcb:(cd==0)=false:=by simpa using hne
  clear HC12 HC2 HC0 hor hrs hcd hne
  go_enter Tryz.func31,Tryz.ntmps31
  go_upto_region 1 with fail
  try rw [hV]
  try rw [hQ]
  go_wp2_with fail
  refine HRE.out.mono ?_
  rintro e1 w1 ⟨rfl,hb1⟩
  have HB1:=hid hb1
  obtain ⟨_,hz⟩:=HBX.out w1 fun b hb=>hb1.block b (by have:=HSZ.out;omega)
  clear hb1 HRE HBX a0 a1
  obtain ⟨WZ,hWZ⟩:∃WZ,(((((w1.setCell ⟨Q+1,0,none⟩ (.int .i64 0)).setCell ⟨Q+1,1,none⟩ (.int .u64 0)).setCell ⟨Q+1,2,none⟩ (.int .i64 0)).setCell ⟨Q+1,3,none⟩ (.bool false)).setCell ⟨Q+1,4,none⟩ (.slice none 0 0))=WZ:=⟨_,rfl⟩
  obtain ⟨hbz,fz⟩:=put_ver hz ⟨0,0,0,false,none,0,[]⟩ WZ hWZ
  have y0:w1.cell? ⟨Q+1,0,none⟩=some (.int .i64 0):=cz hz
  have z0:=Lib.frozen_of_heap hz 0
  have y1:w1.cell? ⟨Q+1,1,none⟩=some (.int .u64 0):=cz hz
  have z1:=Lib.frozen_of_heap hz 1
  have y2:w1.cell? ⟨Q+1,2,none⟩=some (.int .i64 0):=cz hz
  have z2:=Lib.frozen_of_heap hz 2
  have y3:w1.cell? ⟨Q+1,3,none⟩=some (.bool false):=cz hz
  have z3:=Lib.frozen_of_heap hz 3
  have y4:w1.cell? ⟨Q+1,4,none⟩=some (.slice none 0 0):=cz hz
  have z4:=Lib.frozen_of_heap hz 4
  have g0:WZ.cell? ⟨Q+1,0,none⟩=some (.int .i64 0):=cz hbz
  have g1:WZ.cell? ⟨Q+1,1,none⟩=some (.int .u64 0):=cz hbz
  have g2:WZ.cell? ⟨Q+1,2,none⟩=some (.int .i64 0):=cz hbz
  have g3:WZ.cell? ⟨Q+1,3,none⟩=some (.bool false):=cz hbz
  have g4:WZ.cell? ⟨Q+1,4,none⟩=some (.slice none 0 0):=cz hbz
  have HFIN:Hid (XsV n0 (nr+1) W s.h (s.xs.map Px.g) c RS.1 (setS s.sv i RS.2) (.returned (.tuple #[.agg #[.int .i64 0,.int .u64 0,.int .i64 0,.bool false,.slice none 0 0],.int .i64 cd])) WZ):=by
   show XsV _ _ _ _ _ _ _ _ _ _
   rw [HRR.out]
   have q1:W.heap.size≤Q+1:=by have:=HQQ.out;omega
   have q:=(Mid.start HX.out HF.out (Nat.le_succ nr) (bel_then HV.out HV.out.size HB1.out)).box fz (HX.out.out _ q1) q1
   refine ⟨⟨0,0,0,false,none,0,[]⟩,W.heap.size,rfl,rfl,ownJ_none _ _,fitX_none,q.stepN (setS_self (tx_of HY.out)).symm (Nat.le_refl _) fun k hk=>HX.out.out k hk⟩
  clear hbz fz hz
  go_wp2_with fail
  try rw [hWZ]
  exact bodyPost_ret (v:=.tuple #[.agg #[.int .i64 0,.int .u64 0,.int .i64 0,.bool false,.slice none 0 0],.int .i64 cd]) (by simp [results,Tryz.results31,go_sem,g0,g1,g2,g3,g4]) rfl HFIN.out
 cases EN with
 | true=>exact refuse (Or.inl rfl)
 | false =>
  cases KB with
  | false=>exact refuse (Or.inr rfl)
  | true =>
   obtain ⟨hr0,hrs⟩:=HC0.out rfl rfl
   rw [hr0] at HRE
   have HRR:=hid hrs
   clear hr0 hrs refuse HC12 HC2 HC0
   have HMK:Hid (∀w1,Below W.heap.size W w1→Calls Tryz.prog 93 #[.pointer (some ⟨g,0,none⟩),.agg #[.string ka,.string kb]] w1 fun e w'=>∃m' c',e=.returned (.tuple #[])∧m'.mk'=keyM y.m.mk' (ka,kb)∧Mid n0 (nr+1) W s c { s with xs:=s.xs.set i { y with m:=m' } } c' w'∧(∀k,k<w1.heap.size→c' k=c k)∧w1.heap.size≤w'.heap.size∧∀k,k<w1.heap.size→k≠y.g→w'.heap[k]? = w1.heap[k]?):=fun w1 hb=>by
    rw [←hg]
    exact Mid.key HX.out HF.out (by have:=HN.out;omega) HY.out HEN.out hb (ka,kb) HK.out
   have HGQ:Hid (y.g<Q):=by
    show y.g<Q
    rw [←hQ]
    exact (Array.getElem?_eq_some_iff.1 (HX.out.xat HY.out HEN.out).x).1
   go_enter Tryz.func31,Tryz.ntmps31
   go_upto_region 1 with fail
   try rw [hV]
   try rw [hQ]
   go_wp2_with fail
   refine HRE.out.mono ?_
   rintro e1 w1 ⟨rfl,hb1⟩
   have HB1:=hid hb1
   have HMK1:=hid (HMK.out w1 (bel_then HV.out HV.out.size hb1))
   obtain ⟨⟨b0,b1⟩,_⟩:=HBX.out w1 fun b hb=>hb1.block b (by have:=HSZ.out;omega)
   clear hb1 HRE a0 a1 HMK
   go_wp2_with fail
   refine HMK1.out.mono ?_
   rintro e2 w2 ⟨m',c2,rfl,hmk,hmid,hc2,hsz2,hbk⟩
   have hQ1:V.heap.size≤w1.heap.size:=HB1.out.size
   obtain ⟨⟨d0,d1⟩,_⟩:=HBX.out w2 fun b hb=>(hbk b (by have:=HSZ.out;omega) (by have:=HGQ.out;omega)).trans (HB1.out.block b (by have:=HSZ.out;omega))
   have hz2:w2.heap[Q+1]? = some (.cells #[.int .i64 0,.int .u64 0,.int .i64 0,.bool false,.slice none 0 0] 46 (0,0)):=(HBX.out w2 fun b hb=>(hbk b (by have:=HSZ.out;omega) (by have:=HGQ.out;omega)).trans (HB1.out.block b (by have:=HSZ.out;omega))).2
   have HZ2:=hid hz2
   have HLQ:Hid (c2 (Q+1)=0∧Q+2≤w2.heap.size∧W.heap.size≤Q+1):=by
    have e1:=HSZ.out
    have e2:=HQQ.out
    exact ⟨(hc2 _ (by omega)).trans (HX.out.out _ (by omega)),by omega,by omega⟩
   have HMID:=hid hmid
   have hy':=set_at (z:={ y with m:=m' }) HY.out
   obtain ⟨B,hw,_⟩:=hmid.prg.wrt hy' HEN.out
   have xa:=hmid.prg.xat hy' HEN.out
   have hload:s.nv≤nr:=by have:=HF.out.room;omega
   have HNW:=hid (xnow_any xa hmid.prg.dirS (by show s.nv≤_;have:=HN.out;omega) hw y.ended y.m.mk' (ka,kb) HK.out)
   have HSV:Hid (Ps.sv { s with xs:=s.xs.set i { y with m:=m' } }=setS s.sv i (tagK y.tx (ka,kb))):=by
    show _=_
    rw [sv_set]
    show setS s.sv i ⟨y.snap,y.ended,m'.mk',y.L⟩=_
    rw [hmk]
    rfl
   have HMAY:Hid (∀v,isS s.D y.tx (ka,kb)=some v→mayB v.val=true):=fun v hv=>is_may HF.out.ok (by
    obtain ⟨hi,rfl⟩:=List.getElem?_eq_some_iff.1 HY.out
    exact (HF.out.okx hi).wr) (ka,kb) hv
   have HNW2:Hid (Calls Tryz.prog 94 #[.pointer (some ⟨g,0,none⟩),.agg #[.string ka,.string kb]] w2 fun e w'=>VAns w2 (isS s.D y.tx (ka,kb)) e w'):=by
    rw [←hg]
    exact HNW.out
   clear hmk hmid hc2 hbk hsz2 xa hw HNW hload hz2 HBX b0 b1 HMK1 hy'
   obtain ⟨o,ho⟩:∃o,isS s.D y.tx (ka,kb)=o:=⟨_,rfl⟩
   rw [ho] at HNW2 HRR HMAY
   clear ho
   go_wp2_with fail
   refine HNW2.out.mono ?_
   rintro e3 w3 ⟨z,rfl,hv,hj,hb3⟩
   obtain ⟨X,hX⟩:∃X,w3.heap.size=X:=⟨_,rfl⟩
   obtain ⟨W4,hW4⟩:∃W4,w3.alloc (.cells #[.int .i64 0,.int .u64 0,.int .i64 0,.bool false,.slice none 0 0] 46)=W4:=⟨_,rfl⟩
   have hx4:W4.heap[X]? = some (.cells #[.int .i64 0,.int .u64 0,.int .i64 0,.bool false,.slice none 0 0] 46 (0,0)):=by rw [←hW4,←hX];exact heap_alloc_new w3 _
   have hal:Below w3.heap.size w3 W4:=by rw [←hW4];exact (Below.refl _ _).alloc (Nat.le_refl _) _
   have HVV:=hid hv
   clear hv HNW2 d0 d1
   obtain ⟨yn,ys,yt,yl,yp,yc,yo⟩:=z
   simp only [encVx,Vx.sl] at *
   obtain ⟨W5,hW5⟩:∃W5,(((((W4.setCell ⟨X,0,none⟩ (.int .i64 yn)).setCell ⟨X,1,none⟩ (.int .u64 ys)).setCell ⟨X,2,none⟩ (.int .i64 yt)).setCell ⟨X,3,none⟩ (.bool yl)).setCell ⟨X,4,none⟩ (.slice yp yo.length yc))=W5:=⟨_,rfl⟩
   obtain ⟨hbx,fx⟩:=put_ver hx4 ⟨yn,ys,yt,yl,yp,yc,yo⟩ W5 hW5
   have y0:W4.cell? ⟨X,0,none⟩=some (.int .i64 0):=cz hx4
   have z0:=Lib.frozen_of_heap hx4 0
   have y1:W4.cell? ⟨X,1,none⟩=some (.int .u64 0):=cz hx4
   have z1:=Lib.frozen_of_heap hx4 1
   have y2:W4.cell? ⟨X,2,none⟩=some (.int .i64 0):=cz hx4
   have z2:=Lib.frozen_of_heap hx4 2
   have y3:W4.cell? ⟨X,3,none⟩=some (.bool false):=cz hx4
   have z3:=Lib.frozen_of_heap hx4 3
   have y4:W4.cell? ⟨X,4,none⟩=some (.slice none 0 0):=cz hx4
   have z4:=Lib.frozen_of_heap hx4 4
   have hb35:Below w3.heap.size w3 W5:=hal.trans (fx.below hal.size fun k hk=>by omega)
   have hb25:Below w2.heap.size w2 W5:=bel_then hb3 hb3.size hb35
   have HB25:=hid hb25
   have HJ5:Hid (OwnJ w2.heap.size W5 (.slice yp yo.length yc) yo):=ownJ_fr (P:=fun _=>False) hj (Fr.of_below hb35) fun _ _ f=>f
   have hz:W5.heap[Q+1]? = some (.cells #[.int .i64 0,.int .u64 0,.int .i64 0,.bool false,.slice none 0 0] 46 (0,0)):=(hb25.block _ (by have:=HLQ.out;omega)).trans HZ2.out
   have HX5:=hid hbx
   clear hbx fx hal hb35 hb25 hj hb3 hx4 HZ2
   go_upto_region 6 with fail
   try rw [hX]
   try rw [hW4]
   try rw [hW5]
   clear y0 y1 y2 y3 y4 z0 z1 z2 z3 z4
   have hbx:=HX5.out
   have d0:W5.cell? ⟨X,0,none⟩=some (.int .i64 yn):=cz hbx
   have d1:W5.cell? ⟨X,1,none⟩=some (.int .u64 ys):=cz hbx
   have d2:W5.cell? ⟨X,2,none⟩=some (.int .i64 yt):=cz hbx
   have d3:W5.cell? ⟨X,3,none⟩=some (.bool yl):=cz hbx
   have d4:W5.cell? ⟨X,4,none⟩=some (.slice yp yo.length yc):=cz hbx
   clear hbx HX5
   cases o with
   | none =>
    obtain ⟨WZ,hWZ⟩:∃WZ,(((((W5.setCell ⟨Q+1,0,none⟩ (.int .i64 0)).setCell ⟨Q+1,1,none⟩ (.int .u64 0)).setCell ⟨Q+1,2,none⟩ (.int .i64 0)).setCell ⟨Q+1,3,none⟩ (.bool false)).setCell ⟨Q+1,4,none⟩ (.slice none 0 0))=WZ:=⟨_,rfl⟩
    obtain ⟨hbz,fz⟩:=put_ver hz ⟨0,0,0,false,none,0,[]⟩ WZ hWZ
    have y0:W5.cell? ⟨Q+1,0,none⟩=some (.int .i64 0):=cz hz
    have z0:=Lib.frozen_of_heap hz 0
    have y1:W5.cell? ⟨Q+1,1,none⟩=some (.int .u64 0):=cz hz
    have z1:=Lib.frozen_of_heap hz 1
    have y2:W5.cell? ⟨Q+1,2,none⟩=some (.int .i64 0):=cz hz
    have z2:=Lib.frozen_of_heap hz 2
    have y3:W5.cell? ⟨Q+1,3,none⟩=some (.bool false):=cz hz
    have z3:=Lib.frozen_of_heap hz 3
    have y4:W5.cell? ⟨Q+1,4,none⟩=some (.slice none 0 0):=cz hz
    have z4:=Lib.frozen_of_heap hz 4
    have g0:WZ.cell? ⟨Q+1,0,none⟩=some (.int .i64 0):=cz hbz
    have g1:WZ.cell? ⟨Q+1,1,none⟩=some (.int .u64 0):=cz hbz
    have g2:WZ.cell? ⟨Q+1,2,none⟩=some (.int .i64 0):=cz hbz
    have g3:WZ.cell? ⟨Q+1,3,none⟩=some (.bool false):=cz hbz
    have g4:WZ.cell? ⟨Q+1,4,none⟩=some (.slice none 0 0):=cz hbz
    have HFIN:Hid (XsV n0 (nr+1) W s.h (s.xs.map Px.g) c RS.1 (setS s.sv i RS.2) (.returned (.tuple #[.agg #[.int .i64 0,.int .u64 0,.int .i64 0,.bool false,.slice none 0 0],.int .i64 6])) WZ):=by
     show XsV _ _ _ _ _ _ _ _ _ _
     rw [HRR.out]
     have q:=(HMID.out.on HB25.out).box fz HLQ.out.1 HLQ.out.2.2
     exact ⟨⟨0,0,0,false,none,0,[]⟩,w2.heap.size,rfl,rfl,ownJ_none _ _,fitX_none,q.stepN HSV.out (by have:=HLQ.out;omega) fun k hk=>HMID.out.prg.out k hk⟩
    clear hbz fz hz
    go_wp2_with fail
    try rw [hWZ]
    exact bodyPost_ret (v:=.tuple #[.agg #[.int .i64 0,.int .u64 0,.int .i64 0,.bool false,.slice none 0 0],.int .i64 6]) (by simp [results,Tryz.results31,go_sem,g0,g1,g2,g3,g4]) rfl HFIN.out
   | some v0 =>
    obtain ⟨WZ,hWZ⟩:∃WZ,(((((W5.setCell ⟨Q+1,0,none⟩ (.int .i64 yn)).setCell ⟨Q+1,1,none⟩ (.int .u64 ys)).setCell ⟨Q+1,2,none⟩ (.int .i64 yt)).setCell ⟨Q+1,3,none⟩ (.bool yl)).setCell ⟨Q+1,4,none⟩ (.slice yp yo.length yc))=WZ:=⟨_,rfl⟩
    obtain ⟨hbz,fz⟩:=put_ver hz ⟨yn,ys,yt,yl,yp,yc,yo⟩ WZ hWZ
    have y0:W5.cell? ⟨Q+1,0,none⟩=some (.int .i64 0):=cz hz
    have z0:=Lib.frozen_of_heap hz 0
    have y1:W5.cell? ⟨Q+1,1,none⟩=some (.int .u64 0):=cz hz
    have z1:=Lib.frozen_of_heap hz 1
    have y2:W5.cell? ⟨Q+1,2,none⟩=some (.int .i64 0):=cz hz
    have z2:=Lib.frozen_of_heap hz 2
    have y3:W5.cell? ⟨Q+1,3,none⟩=some (.bool false):=cz hz
    have z3:=Lib.frozen_of_heap hz 3
    have y4:W5.cell? ⟨Q+1,4,none⟩=some (.slice none 0 0):=cz hz
    have z4:=Lib.frozen_of_heap hz 4
    have g0:WZ.cell? ⟨Q+1,0,none⟩=some (.int .i64 yn):=cz hbz
    have g1:WZ.cell? ⟨Q+1,1,none⟩=some (.int .u64 ys):=cz hbz
    have g2:WZ.cell? ⟨Q+1,2,none⟩=some (.int .i64 yt):=cz hbz
    have g3:WZ.cell? ⟨Q+1,3,none⟩=some (.bool yl):=cz hbz
    have g4:WZ.cell? ⟨Q+1,4,none⟩=some (.slice yp yo.length yc):=cz hbz
    have HFIN:Hid (XsV n0 (nr+1) W s.h (s.xs.map Px.g) c RS.1 (setS s.sv i RS.2) (.returned (.tuple #[.agg #[.int .i64 yn,.int .u64 ys,.int .i64 yt,.bool yl,.slice yp yo.length yc],.int .i64 0])) WZ):=by
     show XsV _ _ _ _ _ _ _ _ _ _
     rw [HRR.out]
     have q:=(HMID.out.on HB25.out).box fz HLQ.out.1 HLQ.out.2.2
     refine ⟨⟨yn,ys,yt,yl,yp,yc,yo⟩,w2.heap.size,rfl,HVV.out,ownJ_fr HJ5.out fz fun k hk e=>by have:=(ownJ_blk HJ5.out k hk).1;have:=HLQ.out;omega,(may_fit (by rw [show yo.map Fx.fld=v0.val from congrArg Vr.val HVV.out];exact HMAY.out v0 rfl)).1,q.stepN HSV.out (by have:=HLQ.out;omega) fun k hk=>HMID.out.prg.out k hk⟩
    clear hbz fz hz
    go_wp2_with fail
    try rw [hWZ]
    exact bodyPost_ret (v:=.tuple #[.agg #[.int .i64 yn,.int .u64 ys,.int .i64 yt,.bool yl,.slice yp yo.length yc],.int .i64 0]) (by simp [results,Tryz.results31,go_sem,g0,g1,g2,g3,g4]) rfl HFIN.out
end
section
open Go.RowKit
structure Sto (W0:World) (Z:List (Nat × Obj)) (nr h:Nat) (gs:List Nat) (S:Sv) (w:World):Prop where
 ex:∃c,StoP W0.heap.size nr w h gs S c∧(∀k,k<W0.heap.size→c k=0)∧∀p∈Z,w.heap[p.1]? = some p.2∧c p.1=0
 bel:Below W0.heap.size W0 w
theorem StoP.low {n0 nr:Nat} {W:World} {h:Nat} {gs:List Nat} {S:Sv} {c:Nat→Nat} (x:StoP n0 nr W h gs S c):∃c',StoP n0 nr W h gs S c'∧(∀k,k<n0→c' k=0):=by
 obtain ⟨s,p,f,e1,e2,e3⟩:=x
 refine ⟨fun k=>if k<n0 then 0 else c k,⟨s,⟨fun q=>?_,fun k hk=>?_⟩,f,e1,e2,e3⟩,fun k hk=>if_pos hk⟩
 ·obtain ⟨B,h1,h2⟩:=p.part q
  refine ⟨B,h1,fun k hk=>?_⟩
  have:=((good_s n0 s q).blk h1 k hk).1
  show (if k<n0 then 0 else c k)=q
  rw [if_neg (by omega)]
  exact h2 k hk
 ·show (if k<n0 then 0 else c k)=0
  rw [p.out k hk]
  split<;>rfl
section
variable {W0:World} {Z:List (Nat × Obj)} {nr h:Nat} {gs:List Nat} {S:Sv} {w w':World}
theorem StepP.sto {nr':Nat} {gs':List Nat} {S':Sv} {c:Nat→Nat} (st:StepP W0.heap.size nr' w h gs' c S' w') (hl:∀k,k<W0.heap.size→c k=0) (hz:∀p∈Z,w.heap[p.1]? = some p.2∧c p.1=0) (hb:Below W0.heap.size W0 w):Sto W0 Z nr' h gs' S' w':=by
 obtain ⟨c',q,f,hc⟩:=st
 refine ⟨⟨c',q,fun k hk=>(hc k (Nat.lt_of_lt_of_le hk hb.size)).trans (hl k hk),fun p hp=>?_⟩,hb.trans (f.below hb.size fun k hk=>?_)⟩
 ·obtain ⟨h1,h2⟩:=hz p hp
  have hlt:=(Array.getElem?_eq_some_iff.1 h1).1
  exact ⟨(f.block p.1 hlt fun e=>e h2).trans h1,(hc _ hlt).trans h2⟩
 ·apply Nat.le_of_not_lt
  intro h1
  exact hk (hl k h1)
theorem Sto.on (x:Sto W0 Z nr h gs S w) (hb:Below w.heap.size w w'):Sto W0 Z nr h gs S w':=by
 obtain ⟨c,⟨s,p,f,e1,e2,e3⟩,hl,hz⟩:=x.ex
 exact ⟨⟨c,⟨s,p.on hb,f,e1,e2,e3⟩,hl,fun q hq=>⟨(hb.block _ (Array.getElem?_eq_some_iff.1 (hz q hq).1).1).trans (hz q hq).1,(hz q hq).2⟩⟩,bel_then x.bel x.bel.size hb⟩
theorem Sto.pin (x:Sto W0 Z nr h gs S w) (hb:Below w.heap.size w w') {k:Nat} {b:Obj} (hk:w.heap.size≤k) (hv:w'.heap[k]? = some b):Sto W0 ((k,b)::Z) nr h gs S w':=by
 have y:=x.on hb
 obtain ⟨c,⟨s,p,f,e1,e2,e3⟩,hl,hz⟩:=x.ex
 refine ⟨⟨c,⟨s,p.on hb,f,e1,e2,e3⟩,hl,fun q hq=>?_⟩,y.bel⟩
 rcases List.mem_cons.1 hq with rfl|hq
 ·exact ⟨hv,p.out _ hk⟩
 ·exact ⟨(hb.block _ (Array.getElem?_eq_some_iff.1 (hz q hq).1).1).trans (hz q hq).1,(hz q hq).2⟩
theorem Sto.got (x:Sto W0 Z nr h gs S w) {k:Nat} {b:Obj} (hm:(k,b)∈Z):w.heap[k]? = some b:=by
 obtain ⟨c,_,_,hz⟩:=x.ex
 exact (hz _ hm).1
theorem at_tx {s:Ps} {i g:Nat} {t:Tx} (hg:(s.xs.map Px.g)[i]? = some g) (ht:s.sv.txs[i]? = some t):∃y,s.xs[i]? = some y∧y.g=g∧y.tx=t:=by
 rw [List.getElem?_map] at hg
 have ht':(s.xs.map Px.tx)[i]? = some t:=ht
 rw [List.getElem?_map] at ht'
 cases hy:s.xs[i]? with
 | none=>rw [hy] at hg;cases hg
 | some y =>
  rw [hy] at hg ht'
  exact ⟨y,rfl,Option.some.inj hg,Option.some.inj ht'⟩
theorem w15_new (W0:World) (ve tr ti fi:Int) (h0:0≤fi) (h1:fi≤topS) (hr:rightS ve tr ti=true) :
  Calls Tryz.prog 14 #[.agg #[.int .i64 ve,.int .i64 tr,.int .i64 ti,.int .u64 fi]] W0 fun e w'=>∃h,e=.returned (.tuple #[.pointer (some ⟨h,0,none⟩),.int .i64 0])∧Sto W0 [] 0 h [] (newS ve tr fi) w':=by
 refine (snewS_any W0 ve tr ti fi h0 h1).mono fun e w' q=>?_
 rcases q with ⟨q,_⟩|⟨_,h,c,he,_,q,hb⟩
 ·rw [hr] at q;cases q
 ·obtain ⟨c',q',hl⟩:=q.low
  exact ⟨h,he,⟨c',q',hl,fun p hp=>by cases hp⟩,hb⟩
theorem w15_newNot (w:World) (ve tr ti fi:Int) (h0:0≤fi) (h1:fi≤topS) (hr:rightS ve tr ti=false) :
  Calls Tryz.prog 14 #[.agg #[.int .i64 ve,.int .i64 tr,.int .i64 ti,.int .u64 fi]] w fun e w'=>e=.returned (.tuple #[.pointer none,.int .i64 1])∧Below w.heap.size w w':=by
 refine (snewS_any w ve tr ti fi h0 h1).mono fun e w' q=>?_
 rcases q with ⟨_,q⟩|⟨q,_⟩
 ·exact q
 ·rw [hr] at q;cases q
theorem w15_begin (x:Sto W0 Z nr h gs S w) (hn:nr≤2000000000000):Calls Tryz.prog 22 #[.pointer (some ⟨h,0,none⟩)] w fun e w'=>∃g,e=.returned (.pointer (some ⟨g,0,none⟩))∧Sto W0 Z (nr+1) h (gs++[g]) (beginS S) w':=by
 obtain ⟨⟨c,⟨s,p,f,rfl,rfl,rfl⟩,hl,hz⟩,hb⟩:=x
 refine (sbegin_any p f hn).mono ?_
 rintro e w' ⟨g,rfl,_,st⟩
 exact ⟨g,rfl,st.sto hl hz hb⟩
theorem w15_put (x:Sto W0 Z nr h gs S w) (hn:nr≤1000000000000) {i g:Nat} {t:Tx} (hg:gs[i]? = some g) (ht:S.txs[i]? = some t) (k:Ky) (hk:FitKy12 k) (v:Value) (o:List Fx) (val:List Fld) (hv:IsXs w v o) (hf:FitX o) (hval:o.map Fx.fld=val) :
  Calls Tryz.prog 27 #[.pointer (some ⟨g,0,none⟩),.agg #[.string k.1,.string k.2],v] w fun e w'=>e=.returned (.int .i64 (writeS t k val).1)∧Sto W0 Z (nr+1) h gs (setS S i (writeS t k val).2) w':=by
 obtain ⟨⟨c,⟨s,p,f,rfl,rfl,rfl⟩,hl,hz⟩,hb⟩:=x
 obtain ⟨y,hy,rfl,rfl⟩:=at_tx hg ht
 refine (xput_any p f hn hy k hk v o val hv hf hval).mono ?_
 rintro e w' ⟨rfl,st⟩
 exact ⟨rfl,st.sto hl hz hb⟩
theorem w15_read (x:Sto W0 Z nr h gs S w) (hn:nr≤2000000000000) {i g:Nat} {t:Tx} (hg:gs[i]? = some g) (ht:S.txs[i]? = some t) (k:Ky) (hk:FitKy12 k) :
  Calls Tryz.prog 31 #[.pointer (some ⟨g,0,none⟩),.agg #[.string k.1,.string k.2]] w fun e w'=>∃v:Vx,e=.returned (.tuple #[.agg (encVx v).toArray,.int .i64 (readS S.D t k).1.2])∧v.ver=(readS S.D t k).1.1.getD zeroV∧Sto W0 Z (nr+1) h gs (setS S i (readS S.D t k).2) w':=by
 obtain ⟨⟨c,⟨s,p,f,rfl,rfl,rfl⟩,hl,hz⟩,hb⟩:=x
 obtain ⟨y,hy,rfl,rfl⟩:=at_tx hg ht
 refine (xread_any p f hn hy k hk).mono ?_
 rintro e w' ⟨v,N,rfl,hv,_,_,st⟩
 exact ⟨v,rfl,hv,st.step.sto hl hz hb⟩
theorem w15_commit (x:Sto W0 Z nr h gs S w) (hn:nr≤1300000000000) {i g:Nat} {t:Tx} (hg:gs[i]? = some g) (ht:S.txs[i]? = some t) :
  Calls Tryz.prog 28 #[.pointer (some ⟨g,0,none⟩)] w fun e w'=>e=.returned (.tuple #[.int .u64 (commitS S i t).1.1,.int .i64 (commitS S i t).1.2])∧Sto W0 Z nr h gs (commitS S i t).2 w':=by
 obtain ⟨⟨c,⟨s,p,f,rfl,rfl,rfl⟩,hl,hz⟩,hb⟩:=x
 obtain ⟨y,hy,rfl,rfl⟩:=at_tx hg ht
 refine (xcommit_any p f hn hy).mono ?_
 rintro e w' ⟨rfl,st⟩
 exact ⟨rfl,st.sto hl hz hb⟩
theorem w15_vacuum (x:Sto W0 Z nr h gs S w) (hn:nr≤2000000000000) :
  Calls Tryz.prog 45 #[.pointer (some ⟨h,0,none⟩)] w fun e w'=>e=.returned (.tuple #[.int .u64 (leastS S),.int .i64 (goneD S.D (leastS S):Nat)])∧Sto W0 Z nr h gs (vacS S) w':=by
 obtain ⟨⟨c,⟨s,p,f,rfl,rfl,rfl⟩,hl,hz⟩,hb⟩:=x
 refine (svacuum_any p f hn).mono ?_
 rintro e w' ⟨rfl,st⟩
 exact ⟨rfl,st.sto hl hz hb⟩
theorem w15_visible (x:Sto W0 Z nr h gs S w) (k:Ky) (hk:FitKy12 k) (t:Int) :
  Calls Tryz.prog 42 #[.pointer (some ⟨h,0,none⟩),.agg #[.string k.1,.string k.2],.int .u64 t] w fun e w'=>∃v:Vx,e=.returned (.tuple #[.agg (encVx v).toArray,.bool (atV (ofD S.D k) t).isSome])∧v.ver=(atV (ofD S.D k) t).getD zeroV∧Sto W0 Z nr h gs S w':=by
 have x0:=x
 obtain ⟨⟨c,⟨s,p,f,rfl,rfl,rfl⟩,hl,hz⟩,hb⟩:=x
 refine (svisible_any p.stat p.dirS k hk t).mono ?_
 rintro e w' ⟨v,rfl,hv,_,hb1⟩
 exact ⟨v,rfl,hv,x0.on hb1⟩
theorem w15_count (x:Sto W0 Z nr h gs S w) (hn:nr≤2000000000000):Calls Tryz.prog 29 #[.pointer (some ⟨h,0,none⟩)] w fun e w'=>e=.returned (.int .i64 (countD S.D:Nat))∧Sto W0 Z nr h gs S w':=by
 have x0:=x
 obtain ⟨⟨c,⟨s,p,f,rfl,rfl,rfl⟩,hl,hz⟩,hb⟩:=x
 exact (scountS_any p.stat p.dirS (by have:=f.room;omega)).mono fun e w' q=>⟨q.1,x0.on q.2⟩
theorem w15_tracked (x:Sto W0 Z nr h gs S w):Calls Tryz.prog 44 #[.pointer (some ⟨h,0,none⟩)] w fun e w'=>e=.returned (.int .i64 (S.tk.kept.length:Nat))∧Sto W0 Z nr h gs S w':=by
 have x0:=x
 obtain ⟨⟨c,⟨s,p,f,rfl,rfl,rfl⟩,hl,hz⟩,hb⟩:=x
 obtain ⟨B,hT,_⟩:=p.trk
 exact (strackedS_any p.stat hT).mono fun e w' q=>⟨q.1,x0.on q.2⟩
theorem w15_last (x:Sto W0 Z nr h gs S w):Calls Tryz.prog 30 #[.pointer (some ⟨h,0,none⟩)] w fun e w'=>e=.returned (.int .u64 S.last)∧Sto W0 Z nr h gs S w':=by
 have x0:=x
 obtain ⟨⟨c,⟨s,p,f,rfl,rfl,rfl⟩,hl,hz⟩,hb⟩:=x
 exact (slastS_any p.stat p.cnt.1).mono fun e w' q=>⟨q.1,x0.on q.2⟩
theorem w15_floor (x:Sto W0 Z nr h gs S w):Calls Tryz.prog 20 #[.pointer (some ⟨h,0,none⟩)] w fun e w'=>e=.returned (.int .u64 S.floor)∧Sto W0 Z nr h gs S w':=by
 have x0:=x
 obtain ⟨⟨c,⟨s,p,f,rfl,rfl,rfl⟩,hl,hz⟩,hb⟩:=x
 obtain ⟨B,hT,_⟩:=p.snp
 exact (sfloorS_any p.stat hT).mono fun e w' q=>⟨q.1,x0.on q.2⟩
theorem w15_open (x:Sto W0 Z nr h gs S w):Calls Tryz.prog 43 #[.pointer (some ⟨h,0,none⟩)] w fun e w'=>e=.returned (.int .i64 (countQ (openS S):Nat))∧Sto W0 Z nr h gs S w':=by
 have x0:=x
 obtain ⟨⟨c,⟨s,p,f,rfl,rfl,rfl⟩,hl,hz⟩,hb⟩:=x
 obtain ⟨B,hT,_⟩:=p.snp
 refine (sopenS_any p.stat hT).mono fun e w' q=>⟨?_,x0.on q.2⟩
 rw [q.1,f.os]
theorem w15_ended (x:Sto W0 Z nr h gs S w) {i g:Nat} {t:Tx} (hg:gs[i]? = some g) (ht:S.txs[i]? = some t):Calls Tryz.prog 21 #[.pointer (some ⟨g,0,none⟩)] w fun e w'=>e=.returned (.bool t.ended)∧w'=w:=by
 obtain ⟨⟨c,⟨s,p,f,rfl,rfl,rfl⟩,hl,hz⟩,hb⟩:=x
 obtain ⟨y,hy,rfl,rfl⟩:=at_tx hg ht
 exact p.endis hy w (Below.refl _ _)
end
end
section
open Go.RowKit
def g15:Ky:=(⟨#[65]⟩,⟨#[97]⟩)
def v15:List Fld:=[(⟨#[110]⟩,[⟨#[49]⟩])]
def fx0:Sv:=beginS (beginS (newS 9 4 0))
def fx1:Tx:=(writeS (freshX 0) g15 v15).2
def fx2:Sv:=setS fx0 0 fx1
def fx3:Sv:=(commitS fx2 0 fx1).2
def fx4:Tx:=(readS fx3.D (freshX 0) g15).2
def fx5:Sv:=setS fx3 1 fx4
def fx6:Tx:=(writeS fx4 g15 []).2
def fx7:Sv:=setS fx5 1 fx6
def fx8:Sv:=(commitS fx7 1 fx6).2
def fx9:Sv:=vacS fx8
theorem fx_right:rightS 9 4 1=true∧rightS 0 0 0=false:=⟨rfl,rfl⟩
theorem fx_open:countQ (openS fx0)=2:=rfl
theorem fx_put:(writeS (freshX 0) g15 v15).1=0:=by decide +kernel
theorem fx_com:(commitS fx2 0 fx1).1=(1,0):=by decide +kernel
theorem fx_read:(readS fx3.D (freshX 0) g15).1.2=6:=by decide +kernel
theorem fx_com2:(commitS fx7 1 fx6).1=(0,11):=by decide +kernel
theorem fx_vis:(atV (ofD fx8.D g15) 1).isSome=true∧((atV (ofD fx8.D g15) 1).getD zeroV).num=1:=by decide +kernel
theorem fx_least:leastS fx8=1:=by decide +kernel
theorem fx_end:countD fx9.D=1∧fx9.last=1∧fx9.floor=1∧fx9.tk.kept.length=1:=by decide +kernel
theorem fx_t0:fx0.txs[0]? = some (freshX 0):=rfl
theorem fx_t2:fx2.txs[0]? = some fx1:=rfl
theorem fx_t3:fx3.txs[1]? = some (freshX 0):=by kernel_rfl
theorem fx_t5:fx5.txs[1]? = some fx4:=by kernel_rfl
theorem fx_t7:fx7.txs[1]? = some fx6:=by kernel_rfl
theorem fx_e0:(fx9.txs[0]?).map Tx.ended=some true:=by kernel_rfl
theorem fx_e1:(fx9.txs[1]?).map Tx.ended=some true:=by kernel_rfl
theorem ended_at {l:List Tx} {i:Nat} (h:(l[i]?).map Tx.ended=some true):∃t,l[i]? = some t∧t.ended=true:=by
 cases hl:l[i]? with
 | none=>rw [hl] at h;cases h
 | some t=>rw [hl] at h;exact ⟨t,rfl,Option.some.inj h⟩
end
section
open Go.RowKit
set_option maxHeartbeats 1000000 in
theorem usual15_any (W:World):Calls Tryz.prog 51 #[] W fun e w'=>e=.returned (.agg #[.int .i64 9,.int .i64 4,.int .i64 1,.int .u64 0])∧Below W.heap.size W w':=by
 obtain ⟨V,hV⟩:∃V,W.alloc (.cells #[.int .i64 0,.int .i64 0,.int .i64 0,.int .u64 0] 24)=V:=⟨_,rfl⟩
 obtain ⟨M,hM⟩:∃M,W.heap.size=M:=⟨_,rfl⟩
 have h1:V.heap[M]? = some (.cells #[.int .i64 0,.int .i64 0,.int .i64 0,.int .u64 0] 24 (0,0)):=by rw [←hV,←hM];exact heap_alloc_new W _
 have hb:Below W.heap.size W V:=by rw [←hV];exact (Below.refl _ _).alloc (Nat.le_refl _) _
 obtain ⟨WZ,hWZ⟩:∃WZ,(((V.setCell ⟨M,0,none⟩ (.int .i64 9)).setCell ⟨M,1,none⟩ (.int .i64 4)).setCell ⟨M,2,none⟩ (.int .i64 1)).setCell ⟨M,3,none⟩ (.int .u64 0)=WZ:=⟨_,rfl⟩
 have hbz:WZ.heap[M]? = some (.cells #[.int .i64 9,.int .i64 4,.int .i64 1,.int .u64 0] 24 (0,0)):=by
  rw [←hWZ]
  exact heap_setCell_same _ M 3 _ _ _ (heap_setCell_same _ M 2 _ _ _ (heap_setCell_same _ M 1 _ _ _ (heap_setCell_same _ M 0 _ _ _ h1)))
 have HB:Hid (Below W.heap.size W WZ):=by
  show Below _ _ _
  rw [←hWZ,hM]
  rw [hM] at hb
  exact (((hb.setCell (by simp) _).setCell (by simp) _).setCell (by simp) _).setCell (by simp) _
 have y0:V.cell? ⟨M,0,none⟩=some (.int .i64 0):=cz h1
 have y1:V.cell? ⟨M,1,none⟩=some (.int .i64 0):=cz h1
 have y2:V.cell? ⟨M,2,none⟩=some (.int .i64 0):=cz h1
 have y3:V.cell? ⟨M,3,none⟩=some (.int .u64 0):=cz h1
 have z0:=Lib.frozen_of_heap h1 0
 have z1:=Lib.frozen_of_heap h1 1
 have z2:=Lib.frozen_of_heap h1 2
 have z3:=Lib.frozen_of_heap h1 3
 have g0:WZ.cell? ⟨M,0,none⟩=some (.int .i64 9):=cz hbz
 have g1:WZ.cell? ⟨M,1,none⟩=some (.int .i64 4):=cz hbz
 have g2:WZ.cell? ⟨M,2,none⟩=some (.int .i64 1):=cz hbz
 have g3:WZ.cell? ⟨M,3,none⟩=some (.int .u64 0):=cz hbz
 clear h1 hbz hb
 go_enter Tryz.func51,Tryz.ntmps51
 go_upto_region 1 with fail
 try rw [hV]
 try rw [hM]
 go_wp2_with fail
 try rw [hWZ]
 exact bodyPost_ret (v:=.agg #[.int .i64 9,.int .i64 4,.int .i64 1,.int .u64 0]) (by simp [results,Tryz.results51,go_sem,g0,g1,g2,g3]) rfl ⟨rfl,HB.out⟩
def n15xs (b:Nat):List Fx:=[⟨⟨#[110]⟩,some ⟨b,0,none⟩,1,[⟨#[49]⟩]⟩]
theorem n15_is {W:World} {b c:Nat} (h1:W.heap[c]? = some (.cells #[.string ⟨#[110]⟩,.slice (some ⟨b,0,none⟩) 1 1] 131 (0,0))) (h2:W.heap[b]? = some (.cells #[.string ⟨#[49]⟩] 9 (0,0))):IsXs W (.slice (some ⟨c,0,none⟩) 1 1) (n15xs b):=by
 refine ⟨_,_,rfl,Or.inr ⟨_,_,rfl,fun i hi=>?_⟩,fun x hx=>?_⟩
 ·have hi':i=0:=by simpa [n15xs] using hi
  subst hi'
  exact ⟨by rw [Lib.cell_of_heap h1];rfl,by rw [Lib.cell_of_heap h1];rfl⟩
 ·rw [n15xs,List.mem_singleton] at hx
  subst hx
  refine Or.inr ⟨_,_,rfl,fun i hi=>?_⟩
  have hi':i=0:=by simpa using hi
  subst hi'
  rw [Lib.cell_of_heap h2];rfl
theorem n15_fit (b:Nat):FitX (n15xs b):=(may_fit (o:=n15xs b) (show mayB v15=true by decide)).1
theorem n15_none (W:World):IsXs W (.slice none 0 0) []:=⟨none,0,rfl,Or.inl rfl,fun _ h=>by simp at h⟩
theorem g15_fit:FitKy12 g15:=⟨by decide,by decide⟩
def kB15:Obj:=.cells #[.string ⟨#[65]⟩,.string ⟨#[97]⟩] 39 (0,0)
set_option linter.unusedSimpArgs false in
set_option maxHeartbeats 1500000 in
set_option maxRecDepth 100000 in
theorem fixed15_any (W:World):Calls Tryz.prog 13 #[] W fun e w'=>e=.returned (.bool true)∧Below W.heap.size W w':=by
 have HU:=hid (usual15_any W)
 go_enter Tryz.func13,Tryz.ntmps13
 go_wp2_with fail
 refine HU.out.mono ?_
 rintro e w1 ⟨rfl,hb1⟩
 have HB1:=hid hb1
 have HN:=hid (w15_new w1 9 4 1 0 (by decide) (by decide) fx_right.1)
 clear hb1 HU
 go_wp2_with fail
 refine HN.out.mono ?_
 rintro e w2 ⟨h,rfl,hx⟩
 have HX:=hid hx
 have HNN:=hid (w15_newNot w2 0 0 0 0 (by decide) (by decide) fx_right.2)
 clear hx HN
 go_wp2_with fail
 refine HNN.out.mono ?_
 rintro e w3 ⟨rfl,hb3⟩
 have HX3:=hid (HX.out.on hb3)
 clear hb3 HX HNN
 obtain ⟨Q,hQ⟩:∃Q,w3.heap.size=Q:=⟨_,rfl⟩
 obtain ⟨V,hV⟩:∃V,w3.alloc (.cells #[.string ⟨#[65]⟩,.string ⟨#[97]⟩] 39)=V:=⟨_,rfl⟩
 have HX4:Hid (Sto w1 [(Q,kB15)] 0 h [] (newS 9 4 0) V):=HX3.out.pin (by rw [←hV];exact (Below.refl _ _).alloc (Nat.le_refl _) _) (by omega) (by rw [←hV,←hQ];exact heap_alloc_new w3 _)
 have HBG:=hid (w15_begin HX4.out (by decide))
 have HKC:Hid (∀{w':World} {Z nr gs S},Sto w1 Z nr h gs S w'→(Q,kB15)∈Z→w'.cell? ⟨Q,0,none⟩=some (.string ⟨#[65]⟩)∧w'.cell? ⟨Q,1,none⟩=some (.string ⟨#[97]⟩)):=fun {w' Z nr gs S} x hm=>by
  have hk:=x.got hm
  unfold kB15 at hk
  exact ⟨by rw [Lib.cell_of_heap hk];rfl,by rw [Lib.cell_of_heap hk];rfl⟩
 clear HX3
 go_upto_region 6 with fail
 try rw [hV]
 try rw [hQ]
 go_wp2_with fail
 refine HBG.out.mono ?_
 rintro e w4 ⟨gx,rfl,hx4⟩
 have HBG2:=hid (w15_begin hx4 (by decide))
 clear hx4 HBG HX4
 go_wp2_with fail
 refine HBG2.out.mono ?_
 rintro e w5 ⟨gy,rfl,hx5⟩
 have HX5:Hid (Sto w1 [(Q,kB15)] 2 h [gx,gy] fx0 w5):=hx5
 have HOP:=hid (w15_open HX5.out)
 rw [fx_open] at HOP
 clear hx5 HBG2
 go_wp2_with fail
 refine HOP.out.mono ?_
 rintro e w6 ⟨rfl,hx6⟩
 have HX6:=hid hx6
 obtain ⟨k0,k1⟩:=HKC.out hx6 (List.mem_singleton.2 rfl)
 clear hx6 HOP HX5
 obtain ⟨R,hR⟩:∃R,w6.heap.size=R:=⟨_,rfl⟩
 obtain ⟨X,hX⟩:∃X,(w6.alloc (.cells #[.string ⟨#[49]⟩] 9)).alloc (.cells #[.string ⟨#[110]⟩,.slice (some ⟨R,0,none⟩) 1 1] 131)=X:=⟨_,rfl⟩
 have hbX:Below w6.heap.size w6 X:=by rw [←hX];exact ((Below.refl _ _).alloc (Nat.le_refl _) _).alloc (by simp) _
 have r0:X.heap[R]? = some (.cells #[.string ⟨#[49]⟩] 9 (0,0)):=by rw [←hX];subst hR;exact (Below.heap_alloc _ _ _ (by simp)).trans (heap_alloc_new w6 _)
 have r1:X.heap[R+1]? = some (.cells #[.string ⟨#[110]⟩,.slice (some ⟨R,0,none⟩) 1 1] 131 (0,0)):=by
  have:=heap_alloc_new (w6.alloc (.cells #[.string ⟨#[49]⟩] 9)) (.cells #[.string ⟨#[110]⟩,.slice (some ⟨R,0,none⟩) 1 1] 131)
  rw [World.size_alloc,hR,hX] at this
  exact this
 have HPU:=hid (w15_put (HX6.out.on hbX) (by decide) (i:=0) (g:=gx) rfl fx_t0 g15 g15_fit _ (n15xs R) v15 (n15_is r1 r0) (n15_fit R) rfl)
 rw [fx_put] at HPU
 simp only [show g15.1=⟨#[65]⟩ from rfl,show g15.2=⟨#[97]⟩ from rfl] at HPU
 clear hbX r0 r1 HX6
 go_upto_region 9 with fail
 go_wp2_with fail
 try rw [hR]
 try rw [hX]
 refine HPU.out.mono ?_
 rintro e w7 ⟨rfl,hx7⟩
 have hx7':Sto w1 [(Q,kB15)] 3 h [gx,gy] fx2 w7:=hx7
 have HCM:=hid (w15_commit hx7' (by decide) (i:=0) (g:=gx) rfl fx_t2)
 rw [fx_com] at HCM
 clear hx7 hx7' HPU k0 k1
 go_wp2_with fail
 refine HCM.out.mono ?_
 rintro e w8 ⟨rfl,hx8⟩
 have hx8':Sto w1 [(Q,kB15)] 3 h [gx,gy] fx3 w8:=hx8
 obtain ⟨k0,k1⟩:=HKC.out hx8 (List.mem_singleton.2 rfl)
 have HRD:=hid (w15_read hx8' (by decide) (i:=1) (g:=gy) rfl fx_t3 g15 g15_fit)
 rw [fx_read] at HRD
 simp only [show g15.1=⟨#[65]⟩ from rfl,show g15.2=⟨#[97]⟩ from rfl] at HRD
 clear hx8 hx8' HCM
 go_wp2_with fail
 refine HRD.out.mono ?_
 rintro e w9 ⟨va,rfl,_,hx9⟩
 have HX9:Hid (Sto w1 [(Q,kB15)] 4 h [gx,gy] fx5 w9):=hx9
 obtain ⟨V9,hV9⟩:∃V9,w9.alloc (.cells (encVx va).toArray 46)=V9:=⟨_,rfl⟩
 have hx9b:=HX9.out.on (w':=V9) (by rw [←hV9];exact (Below.refl _ _).alloc (Nat.le_refl _) _)
 clear k0 k1
 obtain ⟨k0,k1⟩:=HKC.out hx9b (List.mem_singleton.2 rfl)
 have HP2:=hid (w15_put hx9b (by decide) (i:=1) (g:=gy) rfl fx_t5 g15 g15_fit (.slice none 0 0) [] [] (n15_none _) fitX_none rfl)
 simp only [show g15.1=⟨#[65]⟩ from rfl,show g15.2=⟨#[97]⟩ from rfl] at HP2
 unfold encVx Vx.sl at hV9
 unfold encVx Vx.sl
 clear hx9 hx9b HRD
 go_upto_region 12 with fail
 try rw [hV9]
 go_wp2_with fail
 refine HP2.out.mono ?_
 rintro e w10 ⟨rfl,hx10⟩
 have hx10':Sto w1 [(Q,kB15)] 5 h [gx,gy] fx7 w10:=hx10
 have HC2:=hid (w15_commit hx10' (by decide) (i:=1) (g:=gy) rfl fx_t7)
 rw [fx_com2] at HC2
 clear hx10 hx10' HP2 k0 k1 HX9
 go_wp2_with fail
 refine HC2.out.mono ?_
 rintro e w11 ⟨rfl,hx11⟩
 have hx11':Sto w1 [(Q,kB15)] 5 h [gx,gy] fx8 w11:=hx11
 obtain ⟨k0,k1⟩:=HKC.out hx11 (List.mem_singleton.2 rfl)
 have HVI:=hid (w15_visible hx11' g15 g15_fit 1)
 rw [fx_vis.1] at HVI
 simp only [show g15.1=⟨#[65]⟩ from rfl,show g15.2=⟨#[97]⟩ from rfl] at HVI
 clear hx11 hx11' HC2
 go_wp2_with fail
 refine HVI.out.mono ?_
 rintro e w12 ⟨vb,rfl,hvb,hx12⟩
 have hnum:vb.num=1:=(congrArg Vr.num hvb).trans fx_vis.2
 obtain ⟨T,hT⟩:∃T,w12.heap.size=T:=⟨_,rfl⟩
 obtain ⟨V12,hV12⟩:∃V12,w12.alloc (.cells (encVx vb).toArray 46)=V12:=⟨_,rfl⟩
 have hx12b:Sto w1 [(T,.cells (encVx vb).toArray 46 (0,0)),(Q,kB15)] 5 h [gx,gy] fx8 V12:=hx12.pin (by rw [←hV12];exact (Below.refl _ _).alloc (Nat.le_refl _) _) (by omega) (by rw [←hV12,←hT];exact heap_alloc_new w12 _)
 have HVA:=hid (w15_vacuum hx12b (by decide))
 rw [fx_least] at HVA
 unfold encVx Vx.sl at hV12
 unfold encVx Vx.sl
 have HNM:=hid hnum
 clear hx12 hx12b HVI hvb k0 k1 hnum
 go_upto_region 15 with fail
 try rw [hV12]
 try rw [hT]
 go_wp2_with fail
 refine HVA.out.mono ?_
 rintro e w13 ⟨rfl,hx13⟩
 have hx13':Sto w1 [(T,.cells (encVx vb).toArray 46 (0,0)),(Q,kB15)] 5 h [gx,gy] fx9 w13:=hx13
 have HX13:=hid hx13'
 have v0:w13.cell? ⟨T,0,none⟩=some (.int .i64 1):=by
  rw [Lib.cell_of_heap (hx13'.got (List.mem_cons_self ..)),←HNM.out];rfl
 obtain ⟨t0,ht0,he0⟩:∃t,fx9.txs[0]? = some t∧t.ended=true:=ended_at fx_e0
 obtain ⟨t1,ht1,he1⟩:∃t,fx9.txs[1]? = some t∧t.ended=true:=ended_at fx_e1
 have HE0:=hid (w15_ended HX13.out (i:=0) (g:=gx) rfl ht0)
 have HE1:=hid (w15_ended HX13.out (i:=1) (g:=gy) rfl ht1)
 rw [he0] at HE0
 rw [he1] at HE1
 have HCO:=hid (w15_count HX13.out (by decide))
 rw [fx_end.1] at HCO
 clear hx13 hx13' HVA ht0 ht1 he0 he1
 go_wp2_with fail
 refine HE0.out.mono ?_
 rintro e W14 ⟨rfl,rfl⟩
 clear HE0
 go_wp2_with fail
 refine HE1.out.mono ?_
 rintro e W15 ⟨rfl,rfl⟩
 clear HE1
 go_wp2_with fail
 refine HCO.out.mono ?_
 rintro e w14 ⟨rfl,hx14⟩
 have HLA:=hid (w15_last hx14)
 rw [fx_end.2.1] at HLA
 clear hx14 HCO HX13 v0
 go_wp2_with fail
 refine HLA.out.mono ?_
 rintro e w15 ⟨rfl,hx15⟩
 have HFL:=hid (w15_floor hx15)
 rw [fx_end.2.2.1] at HFL
 clear hx15 HLA
 go_wp2_with fail
 refine HFL.out.mono ?_
 rintro e w16 ⟨rfl,hx16⟩
 have HTR:=hid (w15_tracked hx16)
 rw [fx_end.2.2.2] at HTR
 clear hx16 HFL
 go_wp2_with fail
 refine HTR.out.mono ?_
 rintro e w17 ⟨rfl,hx17⟩
 have HFIN:=hid (bel_then HB1.out HB1.out.size (hx17.bel))
 clear hx17 HTR
 go_wp2_with fail
 go_ret
 exact ⟨rfl,HFIN.out⟩
end
section
open Go.RowKit
theorem o15_put (m:Mk) {k:Ky} {v:List Fld} (h:codePW k v=0):writeS ⟨0,false,m,[]⟩ k v=(0,⟨0,false,m,[(k,some v)]⟩):=by
 unfold writeS putW
 rw [if_pos h,h];rfl
end
section
open Go.ChangeShapes Go.WideShapes Go.ChangeAt Go.RowKit Go.Lib Go.Deep Go.Joins
theorem Tryz.cellsVB2:Tryz.prog.cellsOf 81=2:=by kernel_rfl
theorem Tryz.arrVB2:Tryz.prog.underlying 81=some (.array 2 4):=by kernel_rfl
section
variable {H:Type} {enc:TypeId × Value→H} {W:World}
set_option maxRecDepth 100000 in
theorem open_b2V {b0:Nat} {v:Value} {d:DataW H} {p:List MemPlace} (hv:Value.okWide Tryz.prog W .any b0 81 v) (h:DataW.Trod enc Tryz.prog W 0 (fun _=>true) true 81 v d p):∃a b:Bool,v=.agg #[.bool a,.bool b]:=by
 obtain ⟨cs,rfl,hsz⟩:∃cs,v=.agg cs∧cs.size=Tryz.prog.cellsOf 81:=by
  simp only [Value.okWide,Tryz.arrVB2] at hv
  obtain ⟨cs,h1,h2,_⟩:=hv
  exact ⟨cs,h1,h2⟩
 rw [Tryz.cellsVB2] at hsz
 obtain ⟨fuel,hf⟩:=h
 obtain ⟨xs,m,_,_,_,hxl,hall⟩:=DataW.trod_array Tryz.arrVB2 hf
 have h0:=hall 0 (by omega)
 have h1:=hall 1 (by omega)
 rw [Tryz.cellsWBool] at h0 h1
 match xs,hxl with
 | [y0,y1],_ =>
  obtain ⟨l⟩:=cs
  match l,hsz with
  | [c0,c1],_ =>
   simp [Value.cells] at h0 h1
   obtain ⟨a,ea,_⟩:=DataW.trod_bool Tryz.underlying4 h0
   obtain ⟨b,eb,_⟩:=DataW.trod_bool Tryz.underlying4 h1
   simp only [List.cons.injEq,and_true] at ea eb
   exact ⟨a,b,by rw [ea,eb]⟩
end
end
end Go.Proofs.YtmhlcnmfbolgdaaGreat
