/-
  Texts of this claim, one behind the other: Vpf Vpg Vph Vpi Vpj.
-/
import Derived.Test.YtmhlcnmfbolgdaaGreatPg
namespace Go.Proofs.YtmhlcnmfbolgdaaGreat
section
open Go.RowKit
def wrR (s:Ps) (chs:List Ch):(Int × Int) × Ps :=
 if chs=[] then ((0,0),s) else if s.vers<(countD s.D:Int)+(chs.length:Int) then ((0,9),s) else if s.last=topS then ((0,10),s)
 else ((s.last+1,0),{ s with last:=s.last+1,nv:=s.nv+chs.length,D:=putAll s.D chs (s.last+1) s.tick })
def WrPost (n0:Nat) (W:World) (c:Nat→Nat) (r:(Int × Int) × Ps) (e:Ending) (w':World):Prop:=e=.returned (.tuple #[.int .u64 r.1.1,.int .i64 r.1.2])∧∃c',PrgB n0 w' r.2 c'∧(∀k,k<W.heap.size→c' k=c k)∧Fr (fun k=>c k=2∨c k=5) W w'
theorem putAll_snoc (D:List RowD) (l:List Ch) (x:Ch) (n t:Int):putAll D (l++[x]) n t=putD (putAll D l n t) x.key n t x.il x.is:=by
 unfold putAll
 rw [List.foldl_append]
 rfl
set_option linter.unusedSimpArgs false in
set_option maxHeartbeats 8000000 in
set_option maxRecDepth 100000 in
theorem swrite_any {n0 N:Nat} {W:World} {s:Ps} {c:Nat→Nat} (x:PrgB n0 W s c) (h0:0≤s.last) (h1:s.last≤topS) (hcn:(countD s.D:Int)≤4096) (v:Value) (cs:List Cx) (hown:KCx.Own N W v cs) (heach:∀z∈cs,COwn N W z) (hfit:∀z∈cs,FitK (z.a,z.b)) (hN:∀k,N≤k→c k=0) (hnv:s.nv+cs.length≤1300000000000) :
  Calls Tryz.prog 88 #[.pointer (some ⟨s.h,0,none⟩),v] W fun e w'=>WrPost n0 W c (wrR s (cs.map Cx.ch)) e w':=by
 obtain ⟨p,cap,rfl,hat⟩:=Kind.own_is hown
 by_cases hnil:cs.length=0
 ·have hcs:cs=[]:=List.eq_nil_of_length_eq_zero hnil
  subst hcs
  have HFIN:Hid (WrPost n0 W c (wrR s ([].map Cx.ch)) (.returned (.tuple #[.int .u64 0,.int .i64 0])) W):=by
   unfold wrR
   rw [if_pos (by simp)]
   exact ⟨rfl,c,x,fun _ _=>rfl,Fr.refl _ _⟩
  simp only [List.length_nil] at *
  generalize wrR s ([].map Cx.ch)=R at *
  generalize s.h=h at *
  clear x hown heach hfit hN hnv hat hnil h0 h1 hcn
  go_enter Tryz.func88,Tryz.ntmps88
  go_wp2_with fail
  go_ret2
  exact HFIN.out
 ·have hne:cs.map Cx.ch≠[]:=fun e=>hnil (by have:=congrArg List.length e;simpa using this)
  have hnz:((cs.length:Int)==0)=false:=by simpa using hnil
  have HCN:=hid fun n=>scountS_any (W:=W.drewN n) (x.on (bel_drewN (Below.refl W.heap.size W) n)).stat (x.on (bel_drewN (Below.refl W.heap.size W) n)).dirS (by omega)
  have HCT:Hid (∀w',Below W.heap.size W w'→CntAt w' s.hs s.last):=fun w' hb=>(x.on hb).cnt.1
  obtain ⟨_,_,_,_,_,c5⟩:=x.cells
  have HCS:Hid (∀w',Below W.heap.size W w'→w'.cell? ⟨s.h,0,none⟩=some (.pointer (some ⟨s.hd,0,none⟩))∧w'.cell? ⟨s.h,1,none⟩=some (.pointer (some ⟨s.hs,0,none⟩))∧w'.cell? ⟨s.h,2,none⟩=some (.pointer (some ⟨s.hc,0,none⟩))∧w'.cell? ⟨s.h,5,none⟩=some (.int .i64 s.vers)):=fun w' hb=>by
   obtain ⟨q0,q1,q2,_,_,q5⟩:=(x.on hb).cells
   exact ⟨q0,q1,q2,q5⟩
  have HX:=hid x
  by_cases hfull:s.vers<(countD s.D:Int)+(cs.length:Int)
  ·have HFIN:Hid (∀w',Below W.heap.size W w'→WrPost n0 W c (wrR s (cs.map Cx.ch)) (.returned (.tuple #[.int .u64 0,.int .i64 9])) w'):=fun w' hb=>by
    unfold wrR
    rw [if_neg hne,if_pos (by rw [List.length_map];exact hfull)]
    exact ⟨rfl,c,HX.out.on hb,fun _ _=>rfl,Fr.of_below hb⟩
   generalize wrR s (cs.map Cx.ch)=R at *
   generalize s.h=h at *
   generalize s.vers=ve at *
   generalize countD s.D=cn at *
   clear x hown heach hfit hN hat hne HX HCT
   go_enter Tryz.func88,Tryz.ntmps88
   go_upto_region 3 with fail
   refine wp_region_held_drew (S:=fun w'=>w'.cell? ⟨h,5,none⟩=some (.int .i64 ve)) (by kernel_rfl) c5 (fun hHeld=>?_)
   refine tkv 0 (.pointer (some ⟨h,0,none⟩)) hHeld ?_
   simp only [Act.put,sz]
   refine tkv 2 (.slice p cs.length cap) hHeld ?_
   simp only [Act.put,sz]
   refine tkv 3 (.int .i64 (cs.length:Int)) hHeld ?_
   simp only [Act.put,sz]
   refine tkv 5 (.pointer (some ⟨h,0,none⟩)) hHeld ?_
   simp only [Act.put,sz]
   refine tkv 6 (.pointer (some ⟨h,0,none⟩)) hHeld ?_
   simp only [Act.put,sz]
   refine tkv 7 (.pointer (some ⟨h,5,none⟩)) hHeld ?_
   simp only [Act.put,sz]
   refine tkv 8 (.int .i64 ve) hHeld ?_
   simp only [Act.put,sz]
   clear hHeld c5
   refine wpAnyH_ready (rs:=[1]) (by kernel_rfl) (by simp) ?_
   refine AllReadyH.cons (at_drop0 rfl) (fun K hK=>?_) AllReadyH.nil
   rw [if_pos (by rfl)]
   go_simp
   refine (HCN.out 1).mono ?_
   rintro e1 w1 ⟨rfl,hb1⟩
   have hbw1:Below W.heap.size W w1:=bel_then (bel_drewN (Below.refl W.heap.size W) 1) (by simp) hb1
   obtain ⟨d0,d1,d2,d5⟩:=HCS.out w1 hbw1
   have HB1:=hid hbw1
   clear hb1 hbw1 HCN
   go_wp2_with fail
   have hwr:IntKind.i64.wrap ((cn:Int)+(cs.length:Int))=(cn:Int)+(cs.length:Int):=by rw [IntKind.wrap_i64];omega
   refine hK.out _ _ d5 (fun hHeld=>?_)
   clear hK K
   try simp only [Act.put,sz]
   refine tkv 4 (.int .i64 ((cn:Int)+(cs.length:Int))) hHeld ?_
   simp only [Act.put,sz]
   refine tkv 9 (.bool true) hHeld ?_
   simp only [Act.put,sz]
   refine wpAnyH_done (by kernel_rfl) ?_ _
   have HF2:=hid (HFIN.out w1 HB1.out)
   clear HFIN HB1 HCS d0 d1 d2 d5
   go_wp2_with fail
   go_ret2
   exact HF2.out
  ·have HNX:Hid (∀w',Below W.heap.size W w'→Calls Tryz.prog 149 #[.pointer (some ⟨s.hs,0,none⟩)] w' fun e w2=>NextPost w' s.hs s.last e w2):=fun w' hb=>snext_any (HCT.out w' hb) h0 h1
   by_cases hsp:s.last=topS
   ·have HFIN:Hid (∀w',Below W.heap.size W w'→WrPost n0 W c (wrR s (cs.map Cx.ch)) (.returned (.tuple #[.int .u64 0,.int .i64 10])) w'):=fun w' hb=>by
     unfold wrR
     rw [if_neg hne,if_neg (by rw [List.length_map];exact hfull),if_pos hsp]
     exact ⟨rfl,c,HX.out.on hb,fun _ _=>rfl,Fr.of_below hb⟩
    have HNX2:Hid (∀w',Below W.heap.size W w'→Calls Tryz.prog 149 #[.pointer (some ⟨s.hs,0,none⟩)] w' fun e w2=>e=.returned (.tuple #[.int .u64 0,.int .i64 10])∧w2=w'):=fun w' hb=>(HNX.out w' hb).mono fun e w2 q=>by
     rcases q with ⟨_,q⟩|⟨q,_⟩
     ·exact q
     ·exact absurd hsp q
    generalize wrR s (cs.map Cx.ch)=R at *
    generalize s.h=h at *
    generalize s.hs=hs at *
    generalize s.vers=ve at *
    generalize countD s.D=cn at *
    clear x hown heach hfit hN hat hne HX HCT HNX hsp h0 h1
    go_enter Tryz.func88,Tryz.ntmps88
    go_upto_region 3 with fail
    refine wp_region_held_drew (S:=fun w'=>w'.cell? ⟨h,5,none⟩=some (.int .i64 ve)) (by kernel_rfl) c5 (fun hHeld=>?_)
    refine tkv 0 (.pointer (some ⟨h,0,none⟩)) hHeld ?_
    simp only [Act.put,sz]
    refine tkv 2 (.slice p cs.length cap) hHeld ?_
    simp only [Act.put,sz]
    refine tkv 3 (.int .i64 (cs.length:Int)) hHeld ?_
    simp only [Act.put,sz]
    refine tkv 5 (.pointer (some ⟨h,0,none⟩)) hHeld ?_
    simp only [Act.put,sz]
    refine tkv 6 (.pointer (some ⟨h,0,none⟩)) hHeld ?_
    simp only [Act.put,sz]
    refine tkv 7 (.pointer (some ⟨h,5,none⟩)) hHeld ?_
    simp only [Act.put,sz]
    refine tkv 8 (.int .i64 ve) hHeld ?_
    simp only [Act.put,sz]
    clear hHeld c5
    refine wpAnyH_ready (rs:=[1]) (by kernel_rfl) (by simp) ?_
    refine AllReadyH.cons (at_drop0 rfl) (fun K hK=>?_) AllReadyH.nil
    rw [if_pos (by rfl)]
    go_simp
    refine (HCN.out 1).mono ?_
    rintro e1 w1 ⟨rfl,hb1⟩
    have hbw1:Below W.heap.size W w1:=bel_then (bel_drewN (Below.refl W.heap.size W) 1) (by simp) hb1
    obtain ⟨d0,d1,d2,d5⟩:=HCS.out w1 hbw1
    have HB1:=hid hbw1
    clear hb1 hbw1 HCN
    go_wp2_with fail
    have hwr:IntKind.i64.wrap ((cn:Int)+(cs.length:Int))=(cn:Int)+(cs.length:Int):=by rw [IntKind.wrap_i64];omega
    refine hK.out _ _ d5 (fun hHeld=>?_)
    clear hK K
    try simp only [Act.put,sz]
    refine tkv 4 (.int .i64 ((cn:Int)+(cs.length:Int))) hHeld ?_
    simp only [Act.put,sz]
    refine tkv 9 (.bool false) hHeld ?_
    simp only [Act.put,sz]
    refine wpAnyH_done (by kernel_rfl) ?_ _
    have HF2:=hid (HFIN.out w1 HB1.out)
    have HN3:=hid (HNX2.out w1 HB1.out)
    clear HFIN HB1 HCS HNX2 d0 d2 d5
    go_wp2_with fail
    refine HN3.out.mono ?_
    rintro e2 w2 ⟨rfl,rfl⟩
    go_wp2_with fail
    go_ret2
    exact HF2.out
   ·have HNX2:Hid (∀w',Below W.heap.size W w'→Calls Tryz.prog 149 #[.pointer (some ⟨s.hs,0,none⟩)] w' fun e w2=>e=.returned (.tuple #[.int .u64 (s.last+1),.int .i64 0])∧w2=w'.setCell ⟨s.hs,0,none⟩ (.int .u64 (s.last+1))):=fun w' hb=>(HNX.out w' hb).mono fun e w2 q=>by
     rcases q with ⟨q,_⟩|⟨_,q⟩
     ·exact absurd q hsp
     ·exact q
    have HR:Hid (wrR s (cs.map Cx.ch)=((s.last+1,0),{ s with last:=s.last+1,nv:=s.nv+cs.length,D:=putAll s.D (cs.map Cx.ch) (s.last+1) s.tick })):=by
     show _=_
     unfold wrR
     rw [if_neg hne,if_neg (by rw [List.length_map];exact hfull),if_neg hsp,List.length_map]
    obtain ⟨ST,hST⟩:∃ST:Nat→World→Prop,(fun i w=>∃c',PrgB n0 w { s with last:=s.last+1,nv:=s.nv+i,D:=putAll s.D ((cs.map Cx.ch).take i) (s.last+1) s.tick } c'∧(∀k,k<W.heap.size→c' k=c k)∧Fr (fun k=>c k=2∨c k=5) W w)=ST:=⟨_,rfl⟩
    have HS0:Hid (∀w',Below W.heap.size W w'→ST 0 (w'.setCell ⟨s.hs,0,none⟩ (.int .u64 (s.last+1)))):=fun w' hb=>by
     rw [←hST]
     obtain ⟨q1,q2⟩:=(HX.out.on hb).cntT (s.last+1)
     exact ⟨c,q1,fun _ _=>rfl,Fr.then (Fr.of_below hb) q2 fun k hk=>Or.inl (Or.inr hk)⟩
    have HSon:Hid (∀i w w',ST i w→Below w.heap.size w w'→ST i w'):=fun i w w' hs hb=>by
     rw [←hST] at hs ⊢
     obtain ⟨c',q1,q2,q3⟩:=hs
     exact ⟨c',q1.on hb,q2,q3.then (Fr.of_below (P:=fun _=>False) hb) fun _ k=>k.elim⟩
    have HSc:Hid (∀i w,ST i w→ClkAt w s.hc s.tick∧w.cell? ⟨s.h,0,none⟩=some (.pointer (some ⟨s.hd,0,none⟩))∧w.cell? ⟨s.h,2,none⟩=some (.pointer (some ⟨s.hc,0,none⟩))∧Fr (fun k=>c k=2∨c k=5) W w∧W.heap.size≤w.heap.size):=fun i w hs=>by
     rw [←hST] at hs
     obtain ⟨c',q1,q2,q3⟩:=hs
     obtain ⟨e0,_,e2,_⟩:=q1.cells
     exact ⟨q1.clk.1,e0,e2,q3,q3.size⟩
    have HOUT:Hid (∀k,W.heap.size≤k→c k=0):=HX.out.out
    have HHL:Hid (s.h<W.heap.size∧c s.h=1):=⟨HX.out.lt,HX.out.obj.2.2⟩
    have HPUT:Hid (∀(i:Nat) (hi:i<cs.length) (wr w:World),ST i wr→Below wr.heap.size wr w→IsXs w (.slice (cs[i]).ip (cs[i]).io.length (cs[i]).ic) (cs[i]).io→Calls Tryz.prog 151 #[.pointer (some ⟨s.hd,0,none⟩),.agg #[.string (cs[i]).a,.string (cs[i]).b],.int .u64 (s.last+1),.int .i64 s.tick,.bool (cs[i]).il,.slice (cs[i]).ip (cs[i]).io.length (cs[i]).ic] w fun e w'=>∃a b,e=.returned (.tuple #[.int .i64 a,.int .i64 b])∧ST (i+1) w'∧∀k,wr.heap.size≤k→k<w.heap.size→w'.heap[k]? = w.heap[k]?):=fun i hi wr w hs hb hv=>by
     rw [←hST] at hs
     obtain ⟨c',q0,q2,q3⟩:=hs
     have q1:=q0.on hb
     obtain ⟨m,G,hM,hB⟩:=q1.dir
     refine (dput_any hM (by show s.nv+i<_;omega) q1.base ((cs[i]).a,(cs[i]).b) (hfit _ (List.getElem_mem hi)) (s.last+1) s.tick (cs[i]).il _ (cs[i]).io _ hv (heach _ (List.getElem_mem hi)).ifit rfl (by omega)).mono ?_
     rintro e w' ⟨rfl,ht⟩
     obtain ⟨c2,r1,r2,r3⟩:=q1.dirT hM hB ht
     refine ⟨_,_,rfl,?_,fun k hk1 hk2=>r3.block k hk2 (by show ¬ c' k=2;rw [q0.out k hk1];decide)⟩
     rw [←hST]
     have e1:(cs.map Cx.ch).take (i+1)=(cs.map Cx.ch).take i++[(cs[i]).ch]:=by
      rw [List.take_succ_eq_append_getElem (by rw [List.length_map];exact hi),List.getElem_map]
     refine ⟨c2,?_,fun k hk=>(r2 k (Nat.lt_of_lt_of_le hk (Nat.le_trans q3.size hb.size))).trans (q2 k hk),(q3.then (Fr.of_below (P:=fun _=>False) hb) fun _ k=>k.elim).then r3 fun k hk=>?_⟩
     ·rw [e1,putAll_snoc]
      exact r1
     ·by_cases e:k<W.heap.size
      ·exact Or.inl (Or.inl (by rw [←q2 k e];exact hk))
      ·exact Or.inr (by omega)
    have HRD:Hid (∀i w,ST i w→KCx.Own N w (.slice p cs.length cap) cs∧∀z∈cs,COwn N w z):=fun i w hs=>by
     obtain ⟨_,_,_,f,_⟩:=HSc.out i w hs
     have hno:∀k,N≤k→¬ (c k=2∨c k=5):=fun k hk=>by rw [hN k hk];decide
     refine ⟨f.row (show W.ownsRow N KCx.T KCx.k (.slice p cs.length cap) cs.length (KCx.cells cs) from hown) fun k hk=>hno k (World.ownsRow.lt (show W.ownsRow N KCx.T KCx.k (.slice p cs.length cap) cs.length (KCx.cells cs) from hown) k hk).1,fun z hz=>(heach z hz).fr f fun k hk=>hno k ((heach z hz).blk k hk).1⟩
    have HEND:Hid (∀w,ST cs.length w→WrPost n0 W c (wrR s (cs.map Cx.ch)) (.returned (.tuple #[.int .u64 (s.last+1),.int .i64 0])) w):=fun w hs=>by
     rw [HR.out]
     rw [←hST] at hs
     obtain ⟨c',q1,q2,q3⟩:=hs
     rw [List.take_of_length_le (by rw [List.length_map];exact Nat.le_refl _)] at q1
     exact ⟨rfl,c',q1,q2,q3⟩
    have htop:s.last+1≤18446744073709551615:=by unfold topS at *;omega
    generalize wrR s (cs.map Cx.ch)=R at *
    generalize s.last+1=NL at *
    generalize s.h=h at *
    generalize s.hs=hs at *
    generalize s.hc=hc at *
    generalize s.hd=hd at *
    generalize s.tick=tick at *
    generalize s.vers=ve at *
    generalize countD s.D=cn at *
    clear x hown heach hfit hN hat hne HX HCT HNX hsp h0 h1 hST HR
    go_enter Tryz.func88,Tryz.ntmps88
    go_upto_region 3 with fail
    refine wp_region_held_drew (S:=fun w'=>w'.cell? ⟨h,5,none⟩=some (.int .i64 ve)) (by kernel_rfl) c5 (fun hHeld=>?_)
    refine tkv 0 (.pointer (some ⟨h,0,none⟩)) hHeld ?_
    simp only [Act.put,sz]
    refine tkv 2 (.slice p cs.length cap) hHeld ?_
    simp only [Act.put,sz]
    refine tkv 3 (.int .i64 (cs.length:Int)) hHeld ?_
    simp only [Act.put,sz]
    refine tkv 5 (.pointer (some ⟨h,0,none⟩)) hHeld ?_
    simp only [Act.put,sz]
    refine tkv 6 (.pointer (some ⟨h,0,none⟩)) hHeld ?_
    simp only [Act.put,sz]
    refine tkv 7 (.pointer (some ⟨h,5,none⟩)) hHeld ?_
    simp only [Act.put,sz]
    refine tkv 8 (.int .i64 ve) hHeld ?_
    simp only [Act.put,sz]
    clear hHeld c5
    refine wpAnyH_ready (rs:=[1]) (by kernel_rfl) (by simp) ?_
    refine AllReadyH.cons (at_drop0 rfl) (fun K hK=>?_) AllReadyH.nil
    rw [if_pos (by rfl)]
    go_simp
    refine (HCN.out 1).mono ?_
    rintro e1 w1 ⟨rfl,hb1⟩
    have hbw1:Below W.heap.size W w1:=bel_then (bel_drewN (Below.refl W.heap.size W) 1) (by simp) hb1
    obtain ⟨d0,d1,d2,d5⟩:=HCS.out w1 hbw1
    have HB1:=hid hbw1
    clear hb1 hbw1 HCN
    go_wp2_with fail
    have hwr:IntKind.i64.wrap ((cn:Int)+(cs.length:Int))=(cn:Int)+(cs.length:Int):=by rw [IntKind.wrap_i64];omega
    refine hK.out _ _ d5 (fun hHeld=>?_)
    clear hK K
    try simp only [Act.put,sz]
    refine tkv 4 (.int .i64 ((cn:Int)+(cs.length:Int))) hHeld ?_
    simp only [Act.put,sz]
    refine tkv 9 (.bool false) hHeld ?_
    simp only [Act.put,sz]
    refine wpAnyH_done (by kernel_rfl) ?_ _
    have HN3:=hid (HNX2.out w1 HB1.out)
    have HS1:=hid (HS0.out w1 HB1.out)
    clear HCS HNX2 d0 d2 d5 HS0
    go_wp2_with fail
    refine HN3.out.mono ?_
    rintro e2 w2 ⟨rfl,rfl⟩
    obtain ⟨w2,hw2⟩:∃w2,w1.setCell ⟨hs,0,none⟩ (.int .u64 NL)=w2:=⟨_,rfl⟩
    rw [hw2] at HS1
    try rw [hw2]
    obtain ⟨k1,_,k3,_⟩:=HSc.out 0 w2 HS1.out
    have HCK:=hid (cnow_any k1)
    clear k1 HN3 d1 hw2
    go_wp2_with fail
    refine HCK.out.mono ?_
    rintro e3 w3 ⟨rfl,rfl⟩
    clear k3 HCK
    go_wp2_with fail
    go_loopg [44] cs.length (fun gg vi wr=>∃(i:Nat),vi=.int .i64 i∧i≤cs.length∧cs.length-i≤gg∧Hid (ST i wr))
    case atStart=>exact ⟨0,rfl,by omega,by omega,HS1.out⟩
    case round =>
     clear HS1
     obtain ⟨i,rfl,hi,hgk,HI⟩:=hrel
     by_cases hlt:i<cs.length
     ·have hltz:(i:Int)<(cs.length:Int):=by omega
      have hiz:(0:Int)≤i:=by omega
      obtain ⟨ho,hea⟩:=HRD.out i wr HI.out
      obtain ⟨b1,o1,rfl,k1⟩:∃b off,p=some ⟨b,off,none⟩∧KCx.At wr b off cs:=by
       obtain ⟨p',c',he,hq⟩:=Kind.own_is ho
       injection he with e1 _ _
       subst e1
       rcases hq with h|h
       ·rw [h] at hlt;simp at hlt
       ·exact h
      obtain ⟨y0,y1,y2,y3,y4,y5⟩:=kcx_at k1 i hlt
      have hz:=hea _ (List.getElem_mem hlt)
      have HZI:=hid hz.inn.is
      have HPI:Hid (∀w,Below wr.heap.size wr w→IsXs w (.slice (cs[i]).ip (cs[i]).io.length (cs[i]).ic) (cs[i]).io→Calls Tryz.prog 151 #[.pointer (some ⟨hd,0,none⟩),.agg #[.string (cs[i]).a,.string (cs[i]).b],.int .u64 NL,.int .i64 tick,.bool (cs[i]).il,.slice (cs[i]).ip (cs[i]).io.length (cs[i]).ic] w fun e w'=>∃a b,e=.returned (.tuple #[.int .i64 a,.int .i64 b])∧ST (i+1) w'∧∀k,wr.heap.size≤k→k<w.heap.size→w'.heap[k]? = w.heap[k]?):=fun w hb hv=>HPUT.out i hlt wr w HI.out hb hv
      clear k1 ho hea hz
      generalize cs[i]=z at *
      obtain ⟨za,zb,zwl,zwp,zwc,zwo,zil,zip,zic,zio⟩:=z
      simp only at *
      obtain ⟨O,hO⟩:∃O,wr.heap.size=O:=⟨_,rfl⟩
      obtain ⟨V0,hV0⟩:∃V0,wr.alloc (.cells #[.string ⟨#[]⟩,.string ⟨#[]⟩,.bool false,.slice none 0 0,.bool false,.slice none 0 0] 105)=V0:=⟨_,rfl⟩
      have hv0:V0.heap[O]? = some (.cells #[.string ⟨#[]⟩,.string ⟨#[]⟩,.bool false,.slice none 0 0,.bool false,.slice none 0 0] 105 (0,0)):=by rw [←hV0,←hO];exact heap_alloc_new wr _
      obtain ⟨V,hV⟩:∃V,((((((V0.setCell ⟨O,0,none⟩ (.string za)).setCell ⟨O,1,none⟩ (.string zb)).setCell ⟨O,2,none⟩ (.bool zwl)).setCell ⟨O,3,none⟩ (.slice zwp zwo.length zwc)).setCell ⟨O,4,none⟩ (.bool zil)).setCell ⟨O,5,none⟩ (.slice zip zio.length zic))=V:=⟨_,rfl⟩
      obtain ⟨hvo,fo⟩:=put_chg hv0 ⟨za,zb,zwl,zwp,zwc,zwo,zil,zip,zic,zio⟩ V hV
      have hbV:Below wr.heap.size wr V:=by
       have q0:Below wr.heap.size wr V0:=by rw [←hV0];exact (Below.refl _ _).alloc (Nat.le_refl _) _
       exact q0.trans (fo.below q0.size fun k hk=>by omega)
      have z0:V0.cell? ⟨O,0,none⟩=some (.string ⟨#[]⟩):=cz hv0
      have u0:=Lib.frozen_of_heap hv0 0
      have z1:V0.cell? ⟨O,1,none⟩=some (.string ⟨#[]⟩):=cz hv0
      have u1:=Lib.frozen_of_heap hv0 1
      have z2:V0.cell? ⟨O,2,none⟩=some (.bool false):=cz hv0
      have u2:=Lib.frozen_of_heap hv0 2
      have z3:V0.cell? ⟨O,3,none⟩=some (.slice none 0 0):=cz hv0
      have u3:=Lib.frozen_of_heap hv0 3
      have z4:V0.cell? ⟨O,4,none⟩=some (.bool false):=cz hv0
      have u4:=Lib.frozen_of_heap hv0 4
      have z5:V0.cell? ⟨O,5,none⟩=some (.slice none 0 0):=cz hv0
      have u5:=Lib.frozen_of_heap hv0 5
      have HBX:Hid (∀w':World,w'.heap[O]? = V.heap[O]?→w'.cell? ⟨O,0,none⟩=some (.string za)∧w'.cell? ⟨O,1,none⟩=some (.string zb)∧w'.cell? ⟨O,4,none⟩=some (.bool zil)∧w'.cell? ⟨O,5,none⟩=some (.slice zip zio.length zic)):=fun w' e=>by
       have q:=e.trans hvo
       refine ⟨?_,?_,?_,?_⟩<;>rw [Lib.cell_of_heap q]<;>rfl
      obtain ⟨_,m0,_,_,_⟩:=HSc.out i V (HSon.out i wr V HI.out hbV)
      obtain ⟨t0,t1,t4,t5⟩:=HBX.out V rfl
      have HOV:Hid (wr.heap.size≤O∧O<V.heap.size):=⟨by omega,(Array.getElem?_eq_some_iff.1 hvo).1⟩
      have HP2:=hid fun n=>HPI.out (V.drewN n) (bel_drewN hbV n) (HZI.out.kept (bel_drewN hbV n))
      clear hvo fo hv0 HPI HZI hbV
      go_upto_region 12 with fail
      try rw [hO]
      try rw [hV0]
      try rw [hV]
      clear z0 z1 z2 z3 z4 z5 u0 u1 u2 u3 u4 u5 y0 y1 y2 y3 y4 y5 hV hV0 hO
      refine wp_region_held_drew (S:=fun w'=>w'.cell? ⟨O,0,none⟩=some (.string za)∧w'.cell? ⟨O,1,none⟩=some (.string zb)∧w'.cell? ⟨O,4,none⟩=some (.bool zil)∧w'.cell? ⟨O,5,none⟩=some (.slice zip zio.length zic)∧w'.cell? ⟨h,0,none⟩=some (.pointer (some ⟨hd,0,none⟩))) (by kernel_rfl) ⟨t0,t1,t4,t5,m0⟩ (fun hHeld=>?_)
      refine tkv 0 (.pointer (some ⟨h,0,none⟩)) hHeld ?_
      simp only [Act.put,sz]
      refine tkv 1 (.pointer (some ⟨h,0,none⟩)) hHeld ?_
      simp only [Act.put,sz]
      refine tkv 2 (.pointer (some ⟨h,0,none⟩)) hHeld ?_
      simp only [Act.put,sz]
      refine tkv 3 (.pointer (some ⟨h,0,none⟩)) hHeld ?_
      simp only [Act.put,sz]
      refine tkv 4 (.pointer (some ⟨hd,0,none⟩)) hHeld ?_
      simp only [Act.put,sz]
      refine tkv 5 (.pointer (some ⟨O,0,none⟩)) hHeld ?_
      simp only [Act.put,sz]
      refine tkv 6 (.agg #[.string za,.string zb]) hHeld ?_
      simp only [Act.put,sz]
      refine tkv 7 (.int .u64 NL) hHeld ?_
      simp only [Act.put,sz]
      refine tkv 8 (.int .i64 tick) hHeld ?_
      simp only [Act.put,sz]
      refine tkv 9 (.pointer (some ⟨O,4,none⟩)) hHeld ?_
      simp only [Act.put,sz]
      refine tkv 10 (.bool zil) hHeld ?_
      simp only [Act.put,sz]
      refine tkv 11 (.pointer (some ⟨O,5,none⟩)) hHeld ?_
      simp only [Act.put,sz]
      refine tkv 12 (.slice zip zio.length zic) hHeld ?_
      simp only [Act.put,sz]
      clear hHeld t0 t1 t4 t5 m0
      refine wpAnyH_ready (rs:=[13]) (by kernel_rfl) (by simp) ?_
      refine AllReadyH.cons (at_drop0 rfl) (fun K hK=>?_) AllReadyH.nil
      rw [if_pos (by rfl)]
      go_simp
      refine (HP2.out 1).mono ?_
      rintro e4 w4 ⟨ra,rb,rfl,hs4,hk4⟩
      obtain ⟨t0,t1,t4,t5⟩:=HBX.out w4 (hk4 O HOV.out.1 HOV.out.2)
      obtain ⟨_,m0,_,_,_⟩:=HSc.out (i+1) w4 hs4
      have HN4:=hid hs4
      clear hs4 hk4 HP2 HBX
      go_wp2_with fail
      refine hK.out _ _ (⟨t0,t1,t4,t5,m0⟩) (fun hHeld=>?_)
      clear hK K
      try simp only [Act.put,sz]
      refine wpAnyH_done (by kernel_rfl) ?_ _
      clear t0 t1 t4 t5 m0
      go_wp2_with fail
      go_roundg (cs.length-(i+1))
      case measure=>omega
      exact ⟨i+1,by go_num,by omega,by omega,HN4.out⟩
     ·have hltz:¬ (i:Int)<(cs.length:Int):=by omega
      have hil:i=cs.length:=by omega
      have HF2:Hid (WrPost n0 W c R (.returned (.tuple #[.int .u64 NL,.int .i64 0])) wr):=HEND.out wr (by rw [←hil];exact HI.out)
      clear hil HI HEND
      go_wp2_with fail
      go_ret2
      exact HF2.out
end
section
open Go.RowKit
def trR (s:Ps) (d:Dn):Ps:=if d.chg=[]∧d.marks=([],[]) then s else { s with tk:=dropT (addT s.tk d).2 (leastQ s.os s.last) }
def TrPost (n0:Nat) (W:World) (c:Nat→Nat) (s':Ps) (e:Ending) (w':World):Prop:=e=.returned (.tuple #[])∧∃c',PrgB n0 w' s' c'∧(∀k,k<W.heap.size→c' k=c k)∧Fr (fun k=>c k=3) W w'
set_option linter.unusedSimpArgs false in
set_option maxHeartbeats 8000000 in
set_option maxRecDepth 100000 in
theorem strack_any {n0:Nat} {W:World} {s:Ps} {c:Nat→Nat} (x:PrgB n0 W s c) (hlast:0≤s.last∧s.last≤18446744073709551615) (hos:s.os.length<40000000000000) (d:Dx) (hd:DIn W d) :
  Calls Tryz.prog 90 #[.pointer (some ⟨s.h,0,none⟩),.agg (encDx d).toArray] W fun e w'=>TrPost n0 W c (trR s ⟨d.snap,s.last,d.out,d.m.mk',d.cs.map Cx.ch⟩) e w':=by
 obtain ⟨V,hV⟩:∃V,W.alloc (.cells (encDx d).toArray 177)=V:=⟨_,rfl⟩
 obtain ⟨Q,hQ⟩:∃Q,W.heap.size=Q:=⟨_,rfl⟩
 have h1:V.heap[Q]? = some (.cells (encDx d).toArray 177 (0,0)):=by rw [←hV,←hQ];exact heap_alloc_new W _
 have hb0:Below W.heap.size W V:=by rw [←hV];exact (Below.refl _ _).alloc (Nat.le_refl _) _
 have hsz:V.heap.size=Q+1:=by rw [←hV,←hQ];simp
 obtain ⟨V0,hV0⟩:∃V0,V.alloc (.cells #[.pointer none,.pointer none,.pointer none,.pointer none,.pointer none] 144)=V0:=⟨_,rfl⟩
 obtain ⟨M,hM⟩:∃M,V.heap.size=M:=⟨_,rfl⟩
 have h2:V0.heap[M]? = some (.cells #[.pointer none,.pointer none,.pointer none,.pointer none,.pointer none] 144 (0,0)):=by rw [←hV0,←hM];exact heap_alloc_new V _
 have hb1:Below V.heap.size V V0:=by rw [←hV0];exact (Below.refl _ _).alloc (Nat.le_refl _) _
 have HX:=hid x
 obtain ⟨c0,c1,c2,c3,c4,_⟩:=(x.on hb0).cells
 obtain ⟨c0',c1',c2',c3',c4',_⟩:=((x.on hb0).on hb1).cells
 have HCT:Hid (∀w',Below W.heap.size W w'→Calls Tryz.prog 74 #[.pointer (some ⟨s.hs,0,none⟩)] w' fun e w2=>e=.returned (.int .u64 s.last)∧w2=w'):=fun w' hb=>slast_any (x.on hb).cnt.1
 have hsz3:=hd.sz
 have l1:=hsz3.keys
 have l2:=hsz3.rows
 have l3:=hsz3.chg
 have HADD:Hid (∀w',Below W.heap.size W w'→Calls Tryz.prog 153 #[.pointer (some ⟨s.ht,0,none⟩),.agg (encDx { d with stamp:=s.last }).toArray] w' fun e w2=>∃z,e=.returned (.int .i64 z)∧(∃c',PrgB n0 w2 { s with tk:=(addT s.tk ⟨d.snap,s.last,d.out,d.m.mk',d.cs.map Cx.ch⟩).2 } c'∧(∀k,k<w'.heap.size→c' k=c k)∧Fr (fun k=>c k=3) w' w2)):=fun w' hb=>by
  obtain ⟨B,hT,hB⟩:=(x.on hb).trk
  obtain ⟨ds,va,last,h,rfl⟩:=hT
  refine (tadd_any h (x.on hb).base { d with stamp:=s.last } ⟨hd.mrk.on hb,hd.chg.on hb,hd.sz,hd.snap,hlast⟩).mono fun e w2 q=>⟨_,q.1,?_⟩
  exact (x.on hb).trkT ⟨ds,va,last,h,rfl⟩ hB (prgT_turn q.2)
 have HLE:Hid (∀(w1:World) (c':Nat→Nat) (t:Tk),PrgB n0 w1 { s with tk:=t } c'→Calls Tryz.prog 114 #[partsV s.hd s.hs s.hc s.hq s.ht] w1 fun e w'=>e=.returned (.int .u64 (leastQ s.os s.last))∧Below w1.heap.size w1 w'):=fun w1 c' t y=>by
  obtain ⟨B,hq,_⟩:=y.snp
  exact sleast_any (n0:=n0) (W:=w1) (hs:=s.hs) (hq:=s.hq) (os:=s.os) (fl:=s.floor) (last:=s.last) y.cnt.1 hq hos
 have HDR:Hid (∀(w1:World) (c':Nat→Nat) (t:Tk),PrgB n0 w1 { s with tk:=t } c'→Calls Tryz.prog 154 #[.pointer (some ⟨s.ht,0,none⟩),.int .u64 (leastQ s.os s.last)] w1 fun e w2=>∃z,e=.returned (.int .i64 z)∧(∃c2,PrgB n0 w2 { s with tk:=dropT t (leastQ s.os s.last) } c2∧(∀k,k<w1.heap.size→c2 k=c' k)∧Fr (fun k=>c' k=3) w1 w2)):=fun w1 c' t y=>by
  obtain ⟨B,hT,hB⟩:=y.trk
  obtain ⟨ds,va,last,h,rfl⟩:=hT
  refine (tdrop_any h (leastQ s.os s.last)).mono fun e w2 q=>⟨_,q.1,?_⟩
  exact y.trkT ⟨ds,va,last,h,rfl⟩ hB (prgT_turn q.2)
 have HOUT:Hid (∀k,W.heap.size≤k→c k=0):=x.out
 have HV:=hid hb0
 have HB1:=hid hb1
 have HMQ:Hid (W.heap.size=Q∧M=Q+1∧V.heap.size=Q+1):=⟨hQ,by omega,hsz⟩
 obtain ⟨VP,hVP⟩:∃VP,(((((V0.setCell ⟨M,0,none⟩ (.pointer (some ⟨s.hd,0,none⟩))).setCell ⟨M,1,none⟩ (.pointer (some ⟨s.hs,0,none⟩))).setCell ⟨M,2,none⟩ (.pointer (some ⟨s.hc,0,none⟩))).setCell ⟨M,3,none⟩ (.pointer (some ⟨s.hq,0,none⟩))).setCell ⟨M,4,none⟩ (.pointer (some ⟨s.ht,0,none⟩)))=VP:=⟨_,rfl⟩
 have hvp:VP.heap[M]? = some (.cells #[.pointer (some ⟨s.hd,0,none⟩),.pointer (some ⟨s.hs,0,none⟩),.pointer (some ⟨s.hc,0,none⟩),.pointer (some ⟨s.hq,0,none⟩),.pointer (some ⟨s.ht,0,none⟩)] 144 (0,0)):=by
  rw [←hVP]
  exact heap_setCell_same _ M 4 _ _ _ (heap_setCell_same _ M 3 _ _ _ (heap_setCell_same _ M 2 _ _ _ (heap_setCell_same _ M 1 _ _ _ (heap_setCell_same _ M 0 _ _ _ h2))))
 have fvp:Fr (fun b=>b=M) V0 VP:=by
  rw [←hVP]
  exact ((((fr_set5 V0 M 0 _).then (fr_set5 _ M 1 _) fun k hk=>Or.inl hk).then (fr_set5 _ M 2 _) fun k hk=>Or.inl hk).then (fr_set5 _ M 3 _) fun k hk=>Or.inl hk).then (fr_set5 _ M 4 _) fun k hk=>Or.inl hk
 have hbVP:Below V.heap.size V VP:=hb1.trans (fvp.below hb1.size fun k hk=>by omega)
 have HBW:=hid (bel_then hb0 hb0.size hbVP)
 have hq1:VP.heap[Q]? = some (.cells (encDx d).toArray 177 (0,0)):=(hbVP.block Q (by omega)).trans h1
 have HLC:=hid (HCT.out VP HBW.out)
 obtain ⟨WS,hWS⟩:∃WS,VP.setCell ⟨Q,1,none⟩ (.int .u64 s.last)=WS:=⟨_,rfl⟩
 have hqs:WS.heap[Q]? = some (.cells (encDx { d with stamp:=s.last }).toArray 177 (0,0)):=by
  rw [←hWS]
  exact heap_setCell_same VP Q 1 _ _ _ hq1
 have hms:WS.heap[M]? = some (.cells #[.pointer (some ⟨s.hd,0,none⟩),.pointer (some ⟨s.hs,0,none⟩),.pointer (some ⟨s.hc,0,none⟩),.pointer (some ⟨s.hq,0,none⟩),.pointer (some ⟨s.ht,0,none⟩)] 144 (0,0)):=by
  rw [←hWS,heap_setCell_other VP _ M _ (by show M≠Q;omega)]
  exact hvp
 have hbWS:Below W.heap.size W WS:=by
  rw [←hWS]
  exact HBW.out.setCell (by show W.heap.size≤Q;omega) _
 have HBS:=hid hbWS
 have HSZS:Hid (Q<WS.heap.size∧M<WS.heap.size):=⟨(Array.getElem?_eq_some_iff.1 hqs).1,(Array.getElem?_eq_some_iff.1 hms).1⟩
 have HBX:Hid (∀w':World,w'.heap[M]? = WS.heap[M]?→w'.cell? ⟨M,0,none⟩=some (.pointer (some ⟨s.hd,0,none⟩))∧w'.cell? ⟨M,1,none⟩=some (.pointer (some ⟨s.hs,0,none⟩))∧w'.cell? ⟨M,2,none⟩=some (.pointer (some ⟨s.hc,0,none⟩))∧w'.cell? ⟨M,3,none⟩=some (.pointer (some ⟨s.hq,0,none⟩))∧w'.cell? ⟨M,4,none⟩=some (.pointer (some ⟨s.ht,0,none⟩))):=fun w' e=>by
  have q:=e.trans hms
  refine ⟨?_,?_,?_,?_,?_⟩<;>rw [Lib.cell_of_heap q]<;>rfl
 have HAD2:=hid (HADD.out WS hbWS)
 obtain ⟨S',hS'⟩:∃S',trR s ⟨d.snap,s.last,d.out,d.m.mk',d.cs.map Cx.ch⟩=S':=⟨_,rfl⟩
 rw [hS']
 have HNO:Hid (d.m.ks.length+d.m.rs.length+d.cs.length=0→TrPost n0 W c S' (.returned (.tuple #[])) V):=fun h=>by
  have e1:d.m.ks=[]:=List.eq_nil_of_length_eq_zero (by omega)
  have e2:d.m.rs=[]:=List.eq_nil_of_length_eq_zero (by omega)
  have e3:d.cs=[]:=List.eq_nil_of_length_eq_zero (by omega)
  have e4:trR s ⟨d.snap,s.last,d.out,d.m.mk',d.cs.map Cx.ch⟩=s:=by
   unfold trR
   rw [if_pos]
   refine ⟨by rw [e3];rfl,?_⟩
   show (d.m.ks,d.m.rs.map Rx.rg)=_
   rw [e1,e2]
   rfl
  rw [←hS',e4]
  exact ⟨rfl,c,HX.out.on HV.out,fun _ _=>rfl,Fr.of_below HV.out⟩
 have HYES:Hid (¬ d.m.ks.length+d.m.rs.length+d.cs.length=0→∀(w2 w3 w4:World) (c2 c4:Nat→Nat),(∀k,k<WS.heap.size→c2 k=c k)→Fr (fun k=>c k=3) WS w2→Below w2.heap.size w2 w3→PrgB n0 w4 { s with tk:=dropT (addT s.tk ⟨d.snap,s.last,d.out,d.m.mk',d.cs.map Cx.ch⟩).2 (leastQ s.os s.last) } c4→(∀k,k<w3.heap.size→c4 k=c2 k)→Fr (fun k=>c2 k=3) w3 w4→TrPost n0 W c S' (.returned (.tuple #[])) w4):=fun h w2 w3 w4 c2 c4 hc2 f2 hb3 y hc4 f4=>by
  have e4:trR s ⟨d.snap,s.last,d.out,d.m.mk',d.cs.map Cx.ch⟩={ s with tk:=dropT (addT s.tk ⟨d.snap,s.last,d.out,d.m.mk',d.cs.map Cx.ch⟩).2 (leastQ s.os s.last) }:=by
   unfold trR
   rw [if_neg]
   rintro ⟨e1,e2⟩
   have q1:d.cs.length=0:=by have:=congrArg List.length e1;simpa using this
   have q2:d.m.ks.length=0:=congrArg List.length (congrArg Prod.fst e2)
   have q3:d.m.rs.length=0:=by have:=congrArg List.length (congrArg Prod.snd e2);simpa [Mx.mk'] using this
   omega
  rw [←hS',e4]
  have hsW:W.heap.size≤WS.heap.size:=HBS.out.size
  refine ⟨rfl,c4,y,fun k hk=>(hc4 k (Nat.lt_of_lt_of_le hk (Nat.le_trans hsW (Nat.le_trans f2.size hb3.size)))).trans (hc2 k (Nat.lt_of_lt_of_le hk hsW)),?_⟩
  refine Fr.then (Fr.then (Fr.of_below HBS.out) f2 fun k hk=>Or.inl hk) (Fr.then (Fr.of_below hb3) f4 fun k hk=>Or.inl hk) fun k hk=>?_
  by_cases e:k<W.heap.size
  ·refine Or.inl ?_
   have:=hc2 k (Nat.lt_of_lt_of_le e hsW)
   omega
  ·exact Or.inr (by omega)
 obtain ⟨PB,hPB⟩:∃PB:Tk→World→(Nat→Nat)→Prop,(fun t w1 c'=>PrgB n0 w1 { s with tk:=t } c')=PB:=⟨_,rfl⟩
 obtain ⟨T1,hT1⟩:∃T1,(addT s.tk ⟨d.snap,s.last,d.out,d.m.mk',d.cs.map Cx.ch⟩).2=T1:=⟨_,rfl⟩
 rw [hT1] at HAD2 HYES
 have HAD3:Hid (Calls Tryz.prog 153 #[.pointer (some ⟨s.ht,0,none⟩),.agg (encDx { d with stamp:=s.last }).toArray] WS fun e w2=>∃z,e=.returned (.int .i64 z)∧(∃c',PB T1 w2 c'∧(∀k,k<WS.heap.size→c' k=c k)∧Fr (fun k=>c k=3) WS w2)):=by rw [←hPB];exact HAD2.out
 have HON:Hid (∀t w1 c' w2,PB t w1 c'→Below w1.heap.size w1 w2→PB t w2 c'):=fun t w1 c' w2=>by rw [←hPB];exact fun q hb=>q.on hb
 have HLE2:Hid (∀(w1:World) (c':Nat→Nat) (t:Tk),PB t w1 c'→Calls Tryz.prog 114 #[partsV s.hd s.hs s.hc s.hq s.ht] w1 fun e w'=>e=.returned (.int .u64 (leastQ s.os s.last))∧Below w1.heap.size w1 w'):=by rw [←hPB];exact HLE.out
 have HDR2:Hid (∀(w1:World) (c':Nat→Nat) (t:Tk),PB t w1 c'→Calls Tryz.prog 154 #[.pointer (some ⟨s.ht,0,none⟩),.int .u64 (leastQ s.os s.last)] w1 fun e w2=>∃z,e=.returned (.int .i64 z)∧(∃c2,PB (dropT t (leastQ s.os s.last)) w2 c2∧(∀k,k<w1.heap.size→c2 k=c' k)∧Fr (fun k=>c' k=3) w1 w2)):=by rw [←hPB];exact HDR.out
 have HYE2:Hid (¬ d.m.ks.length+d.m.rs.length+d.cs.length=0→∀(w2 w3 w4:World) (c2 c4:Nat→Nat),(∀k,k<WS.heap.size→c2 k=c k)→Fr (fun k=>c k=3) WS w2→Below w2.heap.size w2 w3→PB (dropT T1 (leastQ s.os s.last)) w4 c4→(∀k,k<w3.heap.size→c4 k=c2 k)→Fr (fun k=>c2 k=3) w3 w4→TrPost n0 W c S' (.returned (.tuple #[])) w4):=by rw [←hPB];exact HYES.out
 have HC2:Hid (∀w1 c' t k,PB t w1 c'→w1.heap.size≤k→c' k=0):=fun w1 c' t k=>by rw [←hPB];exact fun q hk=>q.out k hk
 clear x hd hsz3 hlast hos hPB hT1 HADD HLE HDR HCT HAD2 HYES hS' HX
 obtain ⟨sn,st,ou,⟨mkp,mkc,mks,mrp,mrc,mrs⟩,cp,cc,cs⟩:=d
 generalize s.last=LA at *
 generalize leastQ s.os LA=LE at *
 generalize s.h=h at *
 generalize s.hd=hd at *
 generalize s.hs=hs at *
 generalize s.hc=hc at *
 generalize s.hq=hq at *
 generalize s.ht=ht at *
 unfold partsV at *
 simp only [encDx,Mx.ksl,Mx.rsl,Dx.csl] at *
 have y0:V0.cell? ⟨M,0,none⟩=some (.pointer none):=cz h2
 have z0:=Lib.frozen_of_heap h2 0
 have y1:V0.cell? ⟨M,1,none⟩=some (.pointer none):=cz h2
 have z1:=Lib.frozen_of_heap h2 1
 have y2:V0.cell? ⟨M,2,none⟩=some (.pointer none):=cz h2
 have z2:=Lib.frozen_of_heap h2 2
 have y3:V0.cell? ⟨M,3,none⟩=some (.pointer none):=cz h2
 have z3:=Lib.frozen_of_heap h2 3
 have y4:V0.cell? ⟨M,4,none⟩=some (.pointer none):=cz h2
 have z4:=Lib.frozen_of_heap h2 4
 have k3:V.cell? ⟨Q,3,none⟩=some (.slice mkp mks.length mkc):=cz h1
 have k4:V.cell? ⟨Q,4,none⟩=some (.slice mrp mrs.length mrc):=cz h1
 have k5:V.cell? ⟨Q,5,none⟩=some (.slice cp cs.length cc):=cz h1
 have v1:VP.cell? ⟨M,1,none⟩=some (.pointer (some ⟨hs,0,none⟩)):=cz hvp
 have q1:VP.cell? ⟨Q,1,none⟩=some (.int .u64 st):=cz hq1
 have qf:=Lib.frozen_of_heap hq1 1
 have r0:WS.cell? ⟨Q,0,none⟩=some (.int .u64 sn):=cz hqs
 have r1:WS.cell? ⟨Q,1,none⟩=some (.int .u64 LA):=cz hqs
 have r2:WS.cell? ⟨Q,2,none⟩=some (.bool ou):=cz hqs
 have r3:WS.cell? ⟨Q,3,none⟩=some (.slice mkp mks.length mkc):=cz hqs
 have r4:WS.cell? ⟨Q,4,none⟩=some (.slice mrp mrs.length mrc):=cz hqs
 have r5:WS.cell? ⟨Q,5,none⟩=some (.slice cp cs.length cc):=cz hqs
 have hwr1:IntKind.i64.wrap ((mks.length:Int)+(mrs.length:Int))=(mks.length:Int)+(mrs.length:Int):=by rw [IntKind.wrap_i64];omega
 have hwr2:IntKind.i64.wrap ((mks.length:Int)+(mrs.length:Int)+(cs.length:Int))=(mks.length:Int)+(mrs.length:Int)+(cs.length:Int):=by rw [IntKind.wrap_i64];omega
 clear h1 h2 hq1 hqs hvp hb0 hb1 fvp hbVP hbWS hms hsz
 by_cases hno:mks.length+mrs.length+cs.length=0
 ·have hz:(mks.length:Int)+(mrs.length:Int)+(cs.length:Int)=0:=by omega
  have HF2:=hid (HNO.out hno)
  clear HNO HYE2 HDR2 HLE2 HAD3 hno
  go_enter Tryz.func90,Tryz.ntmps90
  go_upto_region 1 with fail
  try rw [hV]
  try rw [hQ]
  go_wp2_with fail
  go_end0
  exact HF2.out
 ·have hz:¬ (mks.length:Int)+(mrs.length:Int)+(cs.length:Int)=0:=by omega
  have hzb:((mks.length:Int)+(mrs.length:Int)+(cs.length:Int)==0)=false:=by simpa using hz
  have HF2:=hid (HYE2.out hno)
  clear HNO HYE2 hno
  obtain ⟨m0,m1,m2,m3,m4⟩:=HBX.out WS rfl
  go_enter Tryz.func90,Tryz.ntmps90
  go_upto_region 1 with fail
  try rw [hV]
  try rw [hQ]
  go_upto_region 3 with fail
  try rw [hM]
  try rw [hV0]
  try rw [hVP]
  go_wp2_with fail
  refine HLC.out.mono ?_
  rintro e1 w1 ⟨rfl,rfl⟩
  go_upto_region 4 with fail
  try rw [hWS]
  go_wp2_with fail
  refine HAD3.out.mono ?_
  rintro e2 w2 ⟨zz,rfl,c',p1,p2,p3⟩
  have hm2:w2.heap[M]? = WS.heap[M]?:=p3.block M HSZS.out.2 (by show ¬ c M=3;rw [HOUT.out M (by have:=HMQ.out;omega)];decide)
  have hS2:=HBX.out w2 hm2
  have HM2:Hid (w2.heap[M]? = WS.heap[M]?∧M<w2.heap.size):=⟨hm2,Nat.lt_of_lt_of_le HSZS.out.2 p3.size⟩
  have HP1:=hid p1
  have HP2:=hid p2
  have HP3:=hid p3
  have HLE3:=hid fun n=>HLE2.out (w2.drewN n) c' T1 (HON.out T1 w2 c' _ p1 (bel_drewN (Below.refl w2.heap.size w2) n))
  have HCM:Hid (c' M=0):=by
   show c' M=0
   rw [p2 M HSZS.out.2]
   exact HOUT.out M (by have:=HMQ.out;omega)
  clear k3 k4 k5 p1 p2 p3 hm2 HAD3 HLE2 m0 m1 m2 m3 m4 r0 r1 r2 r3 r4 r5 y0 y1 y2 y3 y4 z0 z1 z2 z3 z4 v1 q1 qf c0 c1 c2 c3 c4 c0' c1' c2' c3' c4' hwr1 hwr2 hWS hVP hV0 hV
  go_upto_region 5 with fail
  refine wp_region_held_drew (S:=fun w'=>w'.cell? ⟨M,0,none⟩=some (.pointer (some ⟨hd,0,none⟩))∧w'.cell? ⟨M,1,none⟩=some (.pointer (some ⟨hs,0,none⟩))∧w'.cell? ⟨M,2,none⟩=some (.pointer (some ⟨hc,0,none⟩))∧w'.cell? ⟨M,3,none⟩=some (.pointer (some ⟨hq,0,none⟩))∧w'.cell? ⟨M,4,none⟩=some (.pointer (some ⟨ht,0,none⟩))) (by kernel_rfl) hS2 (fun hHeld=>?_)
  refine tkv 0 (.pointer (some ⟨M,4,none⟩)) hHeld ?_
  simp only [Act.put,sz]
  refine tkv 1 (.pointer (some ⟨ht,0,none⟩)) hHeld ?_
  simp only [Act.put,sz]
  refine tkv 2 (.agg #[.pointer (some ⟨hd,0,none⟩),.pointer (some ⟨hs,0,none⟩),.pointer (some ⟨hc,0,none⟩),.pointer (some ⟨hq,0,none⟩),.pointer (some ⟨ht,0,none⟩)]) hHeld ?_
  simp only [Act.put,sz]
  clear hHeld hS2
  refine wpAnyH_ready (rs:=[3]) (by kernel_rfl) (by simp) ?_
  refine AllReadyH.cons (at_drop0 rfl) (fun K hK=>?_) AllReadyH.nil
  rw [if_pos (by rfl)]
  go_simp
  refine (HLE3.out 1).mono ?_
  rintro e3 w3 ⟨rfl,hb3⟩
  have hb3':Below w2.heap.size w2 w3:=bel_then (bel_drewN (Below.refl w2.heap.size w2) 1) (by simp) hb3
  have hm3:w3.heap[M]? = WS.heap[M]?:=(hb3'.block M HM2.out.2).trans HM2.out.1
  have hS3:=HBX.out w3 hm3
  have HM3:Hid (w3.heap[M]? = WS.heap[M]?∧M<w3.heap.size):=⟨hm3,Nat.lt_of_lt_of_le HM2.out.2 hb3'.size⟩
  have HB3:=hid hb3'
  have HDR3:=hid (HDR2.out w3 c' T1 (HON.out T1 w2 c' w3 HP1.out hb3'))
  clear hb3 hb3' hm3 HLE3 HDR2
  go_wp2_with fail
  refine hK.out _ _ hS3 (fun hHeld=>?_)
  clear hK K
  try simp only [Act.put,sz]
  clear hHeld hS3
  refine wpAnyH_ready (rs:=[4]) (by kernel_rfl) (by simp) ?_
  refine AllReadyH.cons (at_drop0 rfl) (fun K hK=>?_) AllReadyH.nil
  rw [if_pos (by rfl)]
  go_simp
  refine HDR3.out.mono ?_
  rintro e4 w4 ⟨zz4,rfl,c4,p1,p2,p3⟩
  have hm4:w4.heap[M]? = WS.heap[M]?:=(p3.block M HM3.out.2 (by show ¬ c' M=3;rw [HCM.out];decide)).trans HM3.out.1
  have hS4:=HBX.out w4 hm4
  have HF4:=hid (HF2.out w2 w3 w4 c' c4 HP2.out HP3.out HB3.out p1 p2 p3)
  clear p1 p2 p3 hm4 HF2 HDR3
  go_wp2_with fail
  refine hK.out _ _ hS4 (fun hHeld=>?_)
  clear hK K
  try simp only [Act.put,sz]
  refine wpAnyH_done (by kernel_rfl) ?_ _
  clear hS4
  go_wp2_with fail
  go_end0
  exact HF4.out
end
section
open Go.RowKit
def CkPost (W:World) (snap:Int) (m:Mx) (ch:List Ch) (la:Bool) (ck:Bool × Int) (e:Ending) (w':World):Prop :=
 ∃d:Dx,e=.returned (.tuple #[.agg (encDx d).toArray,.int .i64 (if la then 11 else ck.2)])∧(la=false→d.snap=snap∧d.stamp=0∧d.out=ck.1∧d.m=m∧d.cs.map Cx.ch=ch∧KCx.Own W.heap.size w' d.csl d.cs∧∀z∈d.cs,COwn W.heap.size w' z)∧Below W.heap.size W w'
theorem szd_few {m:Mx} {cs:List Cx} {nr:Nat} (hn:nr≤1300000000000) (h1:m.ks.length≤nr) (h2:m.rs.length≤nr) (h3:∀k∈m.ks,FitKy12 k) (h4:NrmM m.mk') (h5:cs.length≤nr) (h6:∀c∈cs,CopyX c.wo∧CopyX c.io) (h7:∀c∈cs,FitKy12 (c.a,c.b)):SzD m cs :=
 ⟨by omega,by omega,fun r hr=>by have:=h4.2.2 r.rg (List.mem_map_of_mem hr);have e:r.rg.2=r.tm:=rfl;rw [e] at this;omega,by omega,h6,h3,h7⟩
set_option linter.unusedSimpArgs false in
set_option maxHeartbeats 16000000 in
set_option maxRecDepth 100000 in
theorem xchecked_any {n0 nr:Nat} {W:World} {s:Ps} {c:Nat→Nat} (x:PrgB n0 W s c) (f:FitS nr s) (hn:nr≤1300000000000) {i:Nat} {y:Px} (hy:s.xs[i]? = some y) (hE:y.ended=false) :
  Calls Tryz.prog 87 #[.pointer (some ⟨y.g,0,none⟩)] W fun e w'=>CkPost W y.snap y.m (changesS s.D y.tx) ((changesS s.D y.tx).any (lateS s.D y.snap)) (checkT s.tk y.snap y.m.mk' (changesS s.D y.tx)) e w':=by
 obtain ⟨V,hV⟩:∃V,W.alloc (.cells #[.int .u64 0,.int .u64 0,.bool false,.slice none 0 0,.slice none 0 0,.slice none 0 0] 177)=V:=⟨_,rfl⟩
 obtain ⟨Q,hQ⟩:∃Q,W.heap.size=Q:=⟨_,rfl⟩
 have h1:V.heap[Q]? = some (.cells #[.int .u64 0,.int .u64 0,.bool false,.slice none 0 0,.slice none 0 0,.slice none 0 0] 177 (0,0)):=by rw [←hV,←hQ];exact heap_alloc_new W _
 have hb0:Below W.heap.size W V:=by rw [←hV];exact (Below.refl _ _).alloc (Nat.le_refl _) _
 have hsz:V.heap.size=Q+1:=by rw [←hV,←hQ];simp
 have xv:=x.on hb0
 have xa:=xv.xat hy hE
 obtain ⟨B,hw,hB⟩:=xv.wrt hy hE
 have hlod:=f.lod hy hE
 have hok:OkX s.D s.floor s.last y.tx:=f.okw hy
 have hokw:OkW y.L:=hok.wr
 have HKS:=hid (wkeys_any hw (by omega))
 have hkf:∀k∈keysW y.L,FitK k:=fun k hk=>by
  unfold keysW at hk
  obtain ⟨r,hr,rfl⟩:=List.mem_map.1 hk
  exact key_fit (hokw.key r hr)
 have HLA:Hid ((keysW y.L).any (fun k=>decide (y.snap<(lastV (ofD s.D k)).stamp))=(changesS s.D y.tx).any (lateS s.D y.snap)):=by
  show _=_
  rw [changes_is hokw (show y.tx.ended=false from hE),List.any_map]
  rfl
 have HOV:Hid (∀w1 u,KK.Own V.heap.size w1 u (keysW y.L)→Below V.heap.size V w1→Calls Tryz.prog 146 #[u,.func (.func 147) #[.pointer (some ⟨y.g,0,none⟩)] #[]] w1 fun e w'=>e=.returned (.bool ((changesS s.D y.tx).any (lateS s.D y.snap)))∧Below w1.heap.size w1 w'):=fun w1 u hu hb=>by
  rw [←HLA.out]
  refine hasOv_any _ u (keysW y.L) w1 (Kind.own_is hu) (by unfold keysW;rw [List.length_map];omega) fun W' k hb' hk=>?_
  exact xovertaken_any (xa.on (bel_then hb hb.size hb')) (xv.dirS.on (bel_then hb hb.size hb')) k (hkf k hk)
 have HCH:Hid (∀w1,Below V.heap.size V w1→Calls Tryz.prog 34 #[.pointer (some ⟨y.g,0,none⟩)] w1 fun e w'=>ChPost w1 (changesS s.D y.tx) e w'):=fun w1 hb=>(xchanges_any (xv.on hb) f (by omega) hy).mono fun e w' q=>q.1
 obtain ⟨mk1,mk2,mk3,mk4⟩:=f.mrk hy hE
 have hcl:∀cs:List Cx,cs.map Cx.ch=changesS s.D y.tx→cs.length≤nr∧∀c∈cs,FitKy12 (c.a,c.b):=fun cs hcs=>by
  have e:=changes_is (D:=s.D) hokw (show y.tx.ended=false from hE)
  refine ⟨?_,fun z hz=>?_⟩
  ·have q:=congrArg List.length (hcs.trans e)
   rw [List.length_map,List.length_map] at q
   have q2:(keysW y.tx.wr).length=y.L.length:=by unfold keysW;rw [List.length_map];rfl
   omega
  ·have q:z.ch∈changesS s.D y.tx:=by rw [←hcs];exact List.mem_map_of_mem hz
   rw [e] at q
   obtain ⟨k,hk,q⟩:=List.mem_map.1 q
   have q3:k=(z.a,z.b):=congrArg Ch.key q
   rw [←q3]
   exact hkf k hk
 have HCK:Hid (∀w1 (cp:Option Addr) (cc:Nat) (cs:List Cx),Below V.heap.size V w1→KCx.Own V.heap.size w1 (.slice cp cs.length cc) cs→(∀z∈cs,COwn V.heap.size w1 z)→cs.map Cx.ch=changesS s.D y.tx→Calls Tryz.prog 148 #[.pointer (some ⟨s.ht,0,none⟩),.int .u64 y.snap,.agg (encMx y.m).toArray,.slice cp cs.length cc] w1 fun e w'=>e=.returned (.tuple #[.bool (checkT s.tk y.snap y.m.mk' (changesS s.D y.tx)).1,.int .i64 (checkT s.tk y.snap y.m.mk' (changesS s.D y.tx)).2])∧Below w1.heap.size w1 w'):=fun w1 cp cc cs hb ho he hcs=>by
  obtain ⟨BT,hT,_⟩:=(xv.on hb).trk
  obtain ⟨ds,va,last,h,_⟩:=hT
  rw [←hcs]
  have hm:=((xv.on hb).mrk hy hE).1
  refine tcheck_any h y.snap y.m _ cs hm.inn ⟨Kind.own_is ho,fun z hz=>(he z hz).inn⟩ (szd_few hn mk1 mk2 mk3 mk4 (hcl cs hcs).1 (fun z hz=>⟨(he z hz).wcp,(he z hz).icp⟩) (hcl cs hcs).2)
 have HFIN:Hid (∀(w1 WZ:World) (d:Dx),Below V.heap.size V w1→Fr (fun b=>b=Q) w1 WZ→((changesS s.D y.tx).any (lateS s.D y.snap)=false→d.snap=y.snap∧d.stamp=0∧d.out=(checkT s.tk y.snap y.m.mk' (changesS s.D y.tx)).1∧d.m=y.m∧d.cs.map Cx.ch=changesS s.D y.tx∧KCx.Own V.heap.size w1 d.csl d.cs∧∀z∈d.cs,COwn V.heap.size w1 z)→∀cd:Int,cd=(if (changesS s.D y.tx).any (lateS s.D y.snap) then 11 else (checkT s.tk y.snap y.m.mk' (changesS s.D y.tx)).2)→CkPost W y.snap y.m (changesS s.D y.tx) ((changesS s.D y.tx).any (lateS s.D y.snap)) (checkT s.tk y.snap y.m.mk' (changesS s.D y.tx)) (.returned (.tuple #[.agg (encDx d).toArray,.int .i64 cd])) WZ):=fun w1 WZ d hb fz hd cd hcd=>by
  have q:Below W.heap.size W w1:=bel_then hb0 hb0.size hb
  refine ⟨d,by rw [hcd],fun hl=>?_,q.trans (fz.below q.size fun k hk=>by omega)⟩
  obtain ⟨a1,a0,a2,a3,a4,a5,a6⟩:=hd hl
  have hno:∀k,V.heap.size≤k→¬ k=Q:=fun k hk e=>by omega
  refine ⟨a1,a0,a2,a3,a4,Kind.own_weak (fz.row (show w1.ownsRow V.heap.size KCx.T KCx.k d.csl d.cs.length (KCx.cells d.cs) from a5) fun k hk=>hno k (World.ownsRow.lt (show w1.ownsRow V.heap.size KCx.T KCx.k d.csl d.cs.length (KCx.cells d.cs) from a5) k hk).1) hb0.size,fun z hz=>((a6 z hz).fr fz fun k hk=>hno k ((a6 z hz).blk k hk).1).weak hb0.size⟩
 have HS:Hid (∀W',Below V.heap.size V W'→W'.cell? ⟨y.g,0,none⟩=some (.int .u64 y.snap)∧W'.cell? ⟨y.g,2,none⟩=some (.pointer (some ⟨s.h,0,none⟩))∧W'.cell? ⟨y.g,4,none⟩=some y.m.ksl∧W'.cell? ⟨y.g,5,none⟩=some y.m.rsl∧W'.cell? ⟨s.h,4,none⟩=some (.pointer (some ⟨s.ht,0,none⟩))):=fun W' hb=>by
  have q:=xa.on hb
  exact ⟨q.xc.1,q.xc.2.2.1,q.xc.2.2.2.2.1,q.xc.2.2.2.2.2,q.sc.2.2.2.2.1⟩
 obtain ⟨_,_,_,x3,_⟩:=xa.xc
 have HRB:Hid (∀w1,Below V.heap.size V w1→w1.heap[Q]? = some (.cells #[.int .u64 0,.int .u64 0,.bool false,.slice none 0 0,.slice none 0 0,.slice none 0 0] 177 (0,0))):=fun w1 hb=>(hb.block Q (by omega)).trans h1
 obtain ⟨LT,hLT⟩:∃LT,(changesS s.D y.tx).any (lateS s.D y.snap)=LT:=⟨_,rfl⟩
 rw [hLT] at HOV HFIN ⊢
 obtain ⟨CK,hCK⟩:∃CK,checkT s.tk y.snap y.m.mk' (changesS s.D y.tx)=CK:=⟨_,rfl⟩
 rw [hCK] at HCK HFIN ⊢
 generalize changesS s.D y.tx=CH at *
 generalize keysW y.L=KW at *
 generalize y.g=g at *
 generalize y.gw=gw at *
 generalize y.snap=snap at *
 generalize y.m=m0 at *
 generalize s.h=h at *
 generalize s.ht=ht at *
 clear x f hn hy hE xv xa hw hB hlod hok hokw hkf HLA hcl mk1 mk2 mk3 mk4 h1 hsz hb0 hLT hCK
 obtain ⟨mkp,mkc,mks,mrp,mrc,mrs⟩:=m0
 obtain ⟨OU,cd⟩:=CK
 simp only [Mx.ksl,Mx.rsl,encMx] at *
 cases LT with
 | true =>
  go_enter Tryz.func87,Tryz.ntmps87
  go_upto_region 1 with fail
  try rw [hV]
  try rw [hQ]
  go_wp2_with fail
  refine HKS.out.mono ?_
  rintro e1 w1 ⟨u,rfl,hu,hb1⟩
  have HO2:=hid (HOV.out w1 u hu hb1)
  have HB1:=hid hb1
  clear hu hb1 HOV HKS
  go_wp2_with fail
  refine HO2.out.mono ?_
  rintro e2 w2 ⟨rfl,hb2⟩
  have hbv:Below V.heap.size V w2:=bel_then HB1.out HB1.out.size hb2
  have hz:=HRB.out w2 hbv
  obtain ⟨WZ,hWZ⟩:∃WZ,((((((w2.setCell ⟨Q,0,none⟩ (.int .u64 0)).setCell ⟨Q,1,none⟩ (.int .u64 0)).setCell ⟨Q,2,none⟩ (.bool false)).setCell ⟨Q,3,none⟩ (.slice none 0 0)).setCell ⟨Q,4,none⟩ (.slice none 0 0)).setCell ⟨Q,5,none⟩ (.slice none 0 0))=WZ:=⟨_,rfl⟩
  have hbz:WZ.heap[Q]? = some (.cells #[.int .u64 0,.int .u64 0,.bool false,.slice none 0 0,.slice none 0 0,.slice none 0 0] 177 (0,0)):=by
   rw [←hWZ]
   exact heap_setCell_same _ Q 5 _ _ _ (heap_setCell_same _ Q 4 _ _ _ (heap_setCell_same _ Q 3 _ _ _ (heap_setCell_same _ Q 2 _ _ _ (heap_setCell_same _ Q 1 _ _ _ (heap_setCell_same _ Q 0 _ _ _ hz)))))
  have fz:Fr (fun b=>b=Q) w2 WZ:=by
   rw [←hWZ]
   exact (((((fr_set5 w2 Q 0 _).then (fr_set5 _ Q 1 _) fun k hk=>Or.inl hk).then (fr_set5 _ Q 2 _) fun k hk=>Or.inl hk).then (fr_set5 _ Q 3 _) fun k hk=>Or.inl hk).then (fr_set5 _ Q 4 _) fun k hk=>Or.inl hk).then (fr_set5 _ Q 5 _) fun k hk=>Or.inl hk
  have y0:w2.cell? ⟨Q,0,none⟩=some (.int .u64 0):=cz hz
  have z0:=Lib.frozen_of_heap hz 0
  have y1:w2.cell? ⟨Q,1,none⟩=some (.int .u64 0):=cz hz
  have z1:=Lib.frozen_of_heap hz 1
  have y2:w2.cell? ⟨Q,2,none⟩=some (.bool false):=cz hz
  have z2:=Lib.frozen_of_heap hz 2
  have y3:w2.cell? ⟨Q,3,none⟩=some (.slice none 0 0):=cz hz
  have z3:=Lib.frozen_of_heap hz 3
  have y4:w2.cell? ⟨Q,4,none⟩=some (.slice none 0 0):=cz hz
  have z4:=Lib.frozen_of_heap hz 4
  have y5:w2.cell? ⟨Q,5,none⟩=some (.slice none 0 0):=cz hz
  have z5:=Lib.frozen_of_heap hz 5
  have g0:WZ.cell? ⟨Q,0,none⟩=some (.int .u64 0):=cz hbz
  have g1:WZ.cell? ⟨Q,1,none⟩=some (.int .u64 0):=cz hbz
  have g2:WZ.cell? ⟨Q,2,none⟩=some (.bool false):=cz hbz
  have g3:WZ.cell? ⟨Q,3,none⟩=some (.slice none 0 0):=cz hbz
  have g4:WZ.cell? ⟨Q,4,none⟩=some (.slice none 0 0):=cz hbz
  have g5:WZ.cell? ⟨Q,5,none⟩=some (.slice none 0 0):=cz hbz
  have HF2:=hid (HFIN.out w2 WZ ⟨0,0,false,⟨none,0,[],none,0,[]⟩,none,0,[]⟩ hbv fz (fun h=>by cases h) 11 rfl)
  simp only [encDx,Mx.ksl,Mx.rsl,Dx.csl,List.length_nil] at HF2
  clear hbz fz hz hbv hb2 HFIN HCK HCH HRB HS
  go_wp2_with fail
  try rw [hWZ]
  exact bodyPost_ret (v:=.tuple #[.agg #[.int .u64 0,.int .u64 0,.bool false,.slice none 0 0,.slice none 0 0,.slice none 0 0],.int .i64 11]) (by simp [results,Tryz.results87,go_sem,g0,g1,g2,g3,g4,g5]) rfl HF2.out
 | false =>
  go_enter Tryz.func87,Tryz.ntmps87
  go_upto_region 1 with fail
  try rw [hV]
  try rw [hQ]
  go_wp2_with fail
  refine HKS.out.mono ?_
  rintro e1 w1 ⟨u,rfl,hu,hb1⟩
  have HO2:=hid (HOV.out w1 u hu hb1)
  have HB1:=hid hb1
  clear hu hb1 HOV HKS
  go_wp2_with fail
  refine HO2.out.mono ?_
  rintro e2 w0 ⟨rfl,hb2⟩
  have HBW:Hid (Below V.heap.size V w0):=bel_then HB1.out HB1.out.size hb2
  clear hb2 x3 HB1 HO2
  go_upto_region 3 with fail
  go_cut [4] from 5 (fun v4 wx=>∃X cp cc cs,v4=.pointer (some ⟨X,0,none⟩)∧Hid (wx.heap[X]? = some (.cells #[.int .u64 snap,.int .u64 0,.bool false,.slice mkp mks.length mkc,.slice mrp mrs.length mrc,.slice cp cs.length cc] 177 (0,0))∧V.heap.size≤X∧KCx.Own V.heap.size wx (.slice cp cs.length cc) cs∧(∀z∈cs,COwn V.heap.size wx z)∧cs.map Cx.ch=CH∧(∀k,((Value.slice cp cs.length cc).ownBlock=some k∨∃z∈cs,BlkCx z k)→¬ k=X)∧Below V.heap.size V wx))
  case first =>
   have hS0:=HS.out w0 HBW.out
   refine wp_region_held_drew (S:=fun w'=>w'.cell? ⟨g,0,none⟩=some (.int .u64 snap)∧w'.cell? ⟨g,2,none⟩=some (.pointer (some ⟨h,0,none⟩))∧w'.cell? ⟨g,4,none⟩=some (.slice mkp mks.length mkc)∧w'.cell? ⟨g,5,none⟩=some (.slice mrp mrs.length mrc)∧w'.cell? ⟨h,4,none⟩=some (.pointer (some ⟨ht,0,none⟩))) (by kernel_rfl) hS0 (fun hHeld=>?_)
   refine tkv 0 (.pointer (some ⟨g,0,none⟩)) hHeld ?_
   simp only [Act.put,sz]
   refine tkv 1 (.pointer (some ⟨g,0,none⟩)) hHeld ?_
   simp only [Act.put,sz]
   refine tkv 2 (.pointer (some ⟨g,0,none⟩)) hHeld ?_
   simp only [Act.put,sz]
   refine tkv 3 (.int .u64 snap) hHeld ?_
   simp only [Act.put,sz]
   refine tkv 4 (.pointer (some ⟨g,0,none⟩)) hHeld ?_
   simp only [Act.put,sz]
   refine tkv 5 (.pointer (some ⟨g,0,none⟩)) hHeld ?_
   simp only [Act.put,sz]
   refine tkv 6 (.pointer (some ⟨g,4,none⟩)) hHeld ?_
   simp only [Act.put,sz]
   refine tkv 7 (.agg #[.slice mkp mks.length mkc,.slice mrp mrs.length mrc]) hHeld ?_
   simp only [Act.put,sz]
   refine tkv 8 (.pointer (some ⟨g,0,none⟩)) hHeld ?_
   simp only [Act.put,sz]
   clear hHeld hS0
   have HB0:Hid (Below V.heap.size V w0.drew):=bel_drewN HBW.out 1
   generalize w0.drew=V1 at *
   refine wpAnyH_ready (rs:=[9,11]) (by kernel_rfl) (by simp) ?_
   refine AllReadyH.cons (at_drop0 rfl) (fun K hK=>?_) (AllReadyH.cons (at_drop0 rfl) (fun K hK=>?_) AllReadyH.nil)
   ·rw [if_pos (by rfl)]
    go_simp
    refine (HCH.out V1 HB0.out).mono ?_
    rintro e w2 ⟨cp,cc,cs,rfl,hco,hce,hca,hcm,hb2⟩
    have HB2:Hid (Below V.heap.size V w2):=bel_then HB0.out HB0.out.size hb2
    have HCO:Hid (KCx.Own V.heap.size w2 (.slice cp cs.length cc) cs∧(∀z∈cs,COwn V.heap.size w2 z)∧cs.map Cx.ch=CH):=⟨Kind.own_weak hco HB0.out.size,fun z hz=>(hce z hz).1.weak HB0.out.size,hcm⟩
    have HNX:Hid (∀k,((Value.slice cp cs.length cc).ownBlock=some k∨∃z∈cs,BlkCx z k)→V1.heap.size≤k∧k<w2.heap.size):=fun k hk=>hk.elim (fun q=>World.ownsRow.lt (show w2.ownsRow V1.heap.size KCx.T KCx.k (.slice cp cs.length cc) cs.length (KCx.cells cs) from hco) k q) fun ⟨z,hz,q⟩=>(hce z hz).1.blk k q
    have hS2:=HS.out w2 HB2.out
    clear hco hce hca hcm hb2
    go_wp2_with fail
    refine hK.out _ _ hS2 (fun hHeld=>?_)
    clear hK K
    try simp only [Act.put,sz]
    clear hS2
    refine tkv 10 (.agg #[.int .u64 snap,.int .u64 0,.bool false,.slice mkp mks.length mkc,.slice mrp mrs.length mrc,.slice cp cs.length cc]) hHeld ?_
    simp only [Act.put,sz]
    refine wpAnyH_ready (rs:=[11]) (by kernel_rfl) (by simp) ?_
    refine AllReadyH.cons (at_drop0 rfl) (fun K hK=>?_) AllReadyH.nil
    have HSX2:Hid (∀X,w2.heap.size=X→∀k,k<w2.heap.size→¬ k=X):=fun X e k hk e'=>by omega
    rw [if_pos (by rfl)]
    go_simp
    obtain ⟨X,hX⟩:∃X,w2.heap.size=X:=⟨_,rfl⟩
    obtain ⟨W3,hW3⟩:∃W3,w2.alloc (.cells #[.int .u64 0,.int .u64 0,.bool false,.slice none 0 0,.slice none 0 0,.slice none 0 0] 177)=W3:=⟨_,rfl⟩
    have hal:Below w2.heap.size w2 W3:=by rw [←hW3];exact (Below.refl _ _).alloc (Nat.le_refl _) _
    have HXB:Hid (W3.heap[X]? = some (.cells #[.int .u64 0,.int .u64 0,.bool false,.slice none 0 0,.slice none 0 0,.slice none 0 0] 177 (0,0))):=by show _=_;rw [←hW3,←hX];exact heap_alloc_new w2 _
    have HXL:Hid (V.heap.size≤X∧X<W3.heap.size):=⟨by rw [←hX];exact HB2.out.size,(Array.getElem?_eq_some_iff.1 HXB.out).1⟩
    have HB3:Hid (Below V.heap.size V W3):=bel_then HB2.out HB2.out.size hal
    have HAL:=hid hal
    have hSa:=HS.out W3 HB3.out
    clear hal
    go_wp2_with fail
    try rw [hX]
    try rw [hW3]
    refine hK.out _ _ hSa (fun hHeld=>?_)
    clear hK K
    try simp only [Act.put,sz]
    clear hSa hW3
    have HX2S:=hid hX
    clear hX
    have hz:=HXB.out
    obtain ⟨WZ,hWZ⟩:∃WZ,((((((W3.setCell ⟨X,0,none⟩ (.int .u64 snap)).setCell ⟨X,1,none⟩ (.int .u64 0)).setCell ⟨X,2,none⟩ (.bool false)).setCell ⟨X,3,none⟩ (.slice mkp mks.length mkc)).setCell ⟨X,4,none⟩ (.slice mrp mrs.length mrc)).setCell ⟨X,5,none⟩ (.slice cp cs.length cc))=WZ:=⟨_,rfl⟩
    have hbz:WZ.heap[X]? = some (.cells #[.int .u64 snap,.int .u64 0,.bool false,.slice mkp mks.length mkc,.slice mrp mrs.length mrc,.slice cp cs.length cc] 177 (0,0)):=by
     rw [←hWZ]
     exact heap_setCell_same _ X 5 _ _ _ (heap_setCell_same _ X 4 _ _ _ (heap_setCell_same _ X 3 _ _ _ (heap_setCell_same _ X 2 _ _ _ (heap_setCell_same _ X 1 _ _ _ (heap_setCell_same _ X 0 _ _ _ hz)))))
    have fz:Fr (fun b=>b=X) W3 WZ:=by
     rw [←hWZ]
     exact (((((fr_set5 W3 X 0 _).then (fr_set5 _ X 1 _) fun k hk=>Or.inl hk).then (fr_set5 _ X 2 _) fun k hk=>Or.inl hk).then (fr_set5 _ X 3 _) fun k hk=>Or.inl hk).then (fr_set5 _ X 4 _) fun k hk=>Or.inl hk).then (fr_set5 _ X 5 _) fun k hk=>Or.inl hk
    have y0:W3.cell? ⟨X,0,none⟩=some (.int .u64 0):=cz hz
    have z0:=Lib.frozen_of_heap hz 0
    have y1:W3.cell? ⟨X,1,none⟩=some (.int .u64 0):=cz hz
    have z1:=Lib.frozen_of_heap hz 1
    have y2:W3.cell? ⟨X,2,none⟩=some (.bool false):=cz hz
    have z2:=Lib.frozen_of_heap hz 2
    have y3:W3.cell? ⟨X,3,none⟩=some (.slice none 0 0):=cz hz
    have z3:=Lib.frozen_of_heap hz 3
    have y4:W3.cell? ⟨X,4,none⟩=some (.slice none 0 0):=cz hz
    have z4:=Lib.frozen_of_heap hz 4
    have y5:W3.cell? ⟨X,5,none⟩=some (.slice none 0 0):=cz hz
    have z5:=Lib.frozen_of_heap hz 5
    have HBZ:Hid (Below V.heap.size V WZ):=HB3.out.trans (fz.below HB3.out.size fun k hk=>by have:=HXL.out;omega)
    have hnx:∀k,((Value.slice cp cs.length cc).ownBlock=some k∨∃z∈cs,BlkCx z k)→¬ k=X:=fun k hk e=>by
     have q:=HNX.out k hk
     have:=HX2S.out;omega
    have q0:=(show KCx.Own V.heap.size W3 (.slice cp cs.length cc) cs∧(∀z∈cs,COwn V.heap.size W3 z)∧cs.map Cx.ch=CH from ⟨Kind.own_on HCO.out.1 HAL.out,fun z hz=>(HCO.out.2.1 z hz).on HAL.out,HCO.out.2.2⟩)
    have HFIN:Hid (WZ.heap[X]? = some (.cells #[.int .u64 snap,.int .u64 0,.bool false,.slice mkp mks.length mkc,.slice mrp mrs.length mrc,.slice cp cs.length cc] 177 (0,0))∧V.heap.size≤X∧KCx.Own V.heap.size WZ (.slice cp cs.length cc) cs∧(∀z∈cs,COwn V.heap.size WZ z)∧cs.map Cx.ch=CH∧(∀k,((Value.slice cp cs.length cc).ownBlock=some k∨∃z∈cs,BlkCx z k)→¬ k=X)∧Below V.heap.size V WZ):=⟨hbz,HXL.out.1,fz.row (show W3.ownsRow V.heap.size KCx.T KCx.k (.slice cp cs.length cc) cs.length (KCx.cells cs) from q0.1) fun k hk=>hnx k (Or.inl hk),fun z hz=>(q0.2.1 z hz).fr fz fun k hk=>hnx k (Or.inr ⟨z,hz,hk⟩),q0.2.2,hnx,HBZ.out⟩
    have hSz:=HS.out WZ HBZ.out
    clear hbz fz hz hnx q0
    refine wpAnyH_ready (rs:=[12]) (by kernel_rfl) (by simp) ?_
    refine AllReadyH.cons (at_drop0 rfl) (fun K hK=>?_) AllReadyH.nil
    rw [if_pos (by rfl)]
    go_simp
    go_wp2_with fail
    try rw [hWZ]
    refine hK.out _ _ hSz (fun hHeld=>?_)
    clear hK K
    try simp only [Act.put,sz]
    clear hSz
    refine wpAnyH_done (by kernel_rfl) ?_ _
    clear y0 y1 y2 y3 y4 y5 z0 z1 z2 z3 z4 z5 hWZ
    go_wp2_with fail
    go_meet
    exact ⟨X,cp,cc,cs,rfl,HFIN.out⟩
   ·rw [if_pos (by rfl)]
    go_simp
    obtain ⟨X,hX⟩:∃X,V1.heap.size=X:=⟨_,rfl⟩
    obtain ⟨W3,hW3⟩:∃W3,V1.alloc (.cells #[.int .u64 0,.int .u64 0,.bool false,.slice none 0 0,.slice none 0 0,.slice none 0 0] 177)=W3:=⟨_,rfl⟩
    have hal:Below V1.heap.size V1 W3:=by rw [←hW3];exact (Below.refl _ _).alloc (Nat.le_refl _) _
    have HXB:Hid (W3.heap[X]? = some (.cells #[.int .u64 0,.int .u64 0,.bool false,.slice none 0 0,.slice none 0 0,.slice none 0 0] 177 (0,0))):=by show _=_;rw [←hW3,←hX];exact heap_alloc_new V1 _
    have HXL:Hid (V.heap.size≤X∧X<W3.heap.size):=⟨by rw [←hX];exact HB0.out.size,(Array.getElem?_eq_some_iff.1 HXB.out).1⟩
    have HB3:Hid (Below V.heap.size V W3):=bel_then HB0.out HB0.out.size hal
    have HAL:=hid hal
    have hSa:=HS.out W3 HB3.out
    clear hal
    go_wp2_with fail
    try rw [hX]
    try rw [hW3]
    refine hK.out _ _ hSa (fun hHeld=>?_)
    clear hK K
    try simp only [Act.put,sz]
    clear hSa hX hW3
    refine wpAnyH_ready (rs:=[9]) (by kernel_rfl) (by simp) ?_
    refine AllReadyH.cons (at_drop0 rfl) (fun K hK=>?_) AllReadyH.nil
    rw [if_pos (by rfl)]
    go_simp
    refine (HCH.out W3 HB3.out).mono ?_
    rintro e w2 ⟨cp,cc,cs,rfl,hco,hce,hca,hcm,hb2⟩
    have HB2:Hid (Below V.heap.size V w2):=bel_then HB3.out HB3.out.size hb2
    have HX2:=hid ((hb2.block X HXL.out.2).trans HXB.out)
    have HCO:Hid (KCx.Own V.heap.size w2 (.slice cp cs.length cc) cs∧(∀z∈cs,COwn V.heap.size w2 z)∧cs.map Cx.ch=CH):=⟨Kind.own_weak hco HB3.out.size,fun z hz=>(hce z hz).1.weak HB3.out.size,hcm⟩
    have HNX:Hid (∀k,((Value.slice cp cs.length cc).ownBlock=some k∨∃z∈cs,BlkCx z k)→W3.heap.size≤k∧k<w2.heap.size):=fun k hk=>hk.elim (fun q=>World.ownsRow.lt (show w2.ownsRow W3.heap.size KCx.T KCx.k (.slice cp cs.length cc) cs.length (KCx.cells cs) from hco) k q) fun ⟨z,hz,q⟩=>(hce z hz).1.blk k q
    have hS2:=HS.out w2 HB2.out
    clear hco hce hca hcm hb2
    go_wp2_with fail
    refine hK.out _ _ hS2 (fun hHeld=>?_)
    clear hK K
    try simp only [Act.put,sz]
    clear hS2
    refine tkv 10 (.agg #[.int .u64 snap,.int .u64 0,.bool false,.slice mkp mks.length mkc,.slice mrp mrs.length mrc,.slice cp cs.length cc]) hHeld ?_
    simp only [Act.put,sz]
    have hz:=HX2.out
    obtain ⟨WZ,hWZ⟩:∃WZ,((((((w2.setCell ⟨X,0,none⟩ (.int .u64 snap)).setCell ⟨X,1,none⟩ (.int .u64 0)).setCell ⟨X,2,none⟩ (.bool false)).setCell ⟨X,3,none⟩ (.slice mkp mks.length mkc)).setCell ⟨X,4,none⟩ (.slice mrp mrs.length mrc)).setCell ⟨X,5,none⟩ (.slice cp cs.length cc))=WZ:=⟨_,rfl⟩
    have hbz:WZ.heap[X]? = some (.cells #[.int .u64 snap,.int .u64 0,.bool false,.slice mkp mks.length mkc,.slice mrp mrs.length mrc,.slice cp cs.length cc] 177 (0,0)):=by
     rw [←hWZ]
     exact heap_setCell_same _ X 5 _ _ _ (heap_setCell_same _ X 4 _ _ _ (heap_setCell_same _ X 3 _ _ _ (heap_setCell_same _ X 2 _ _ _ (heap_setCell_same _ X 1 _ _ _ (heap_setCell_same _ X 0 _ _ _ hz)))))
    have fz:Fr (fun b=>b=X) w2 WZ:=by
     rw [←hWZ]
     exact (((((fr_set5 w2 X 0 _).then (fr_set5 _ X 1 _) fun k hk=>Or.inl hk).then (fr_set5 _ X 2 _) fun k hk=>Or.inl hk).then (fr_set5 _ X 3 _) fun k hk=>Or.inl hk).then (fr_set5 _ X 4 _) fun k hk=>Or.inl hk).then (fr_set5 _ X 5 _) fun k hk=>Or.inl hk
    have y0:w2.cell? ⟨X,0,none⟩=some (.int .u64 0):=cz hz
    have z0:=Lib.frozen_of_heap hz 0
    have y1:w2.cell? ⟨X,1,none⟩=some (.int .u64 0):=cz hz
    have z1:=Lib.frozen_of_heap hz 1
    have y2:w2.cell? ⟨X,2,none⟩=some (.bool false):=cz hz
    have z2:=Lib.frozen_of_heap hz 2
    have y3:w2.cell? ⟨X,3,none⟩=some (.slice none 0 0):=cz hz
    have z3:=Lib.frozen_of_heap hz 3
    have y4:w2.cell? ⟨X,4,none⟩=some (.slice none 0 0):=cz hz
    have z4:=Lib.frozen_of_heap hz 4
    have y5:w2.cell? ⟨X,5,none⟩=some (.slice none 0 0):=cz hz
    have z5:=Lib.frozen_of_heap hz 5
    have HBZ:Hid (Below V.heap.size V WZ):=HB2.out.trans (fz.below HB2.out.size fun k hk=>by have:=HXL.out;omega)
    have hnx:∀k,((Value.slice cp cs.length cc).ownBlock=some k∨∃z∈cs,BlkCx z k)→¬ k=X:=fun k hk e=>by
     have q:=HNX.out k hk
     have:=HXL.out;omega
    have q0:=HCO.out
    have HFIN:Hid (WZ.heap[X]? = some (.cells #[.int .u64 snap,.int .u64 0,.bool false,.slice mkp mks.length mkc,.slice mrp mrs.length mrc,.slice cp cs.length cc] 177 (0,0))∧V.heap.size≤X∧KCx.Own V.heap.size WZ (.slice cp cs.length cc) cs∧(∀z∈cs,COwn V.heap.size WZ z)∧cs.map Cx.ch=CH∧(∀k,((Value.slice cp cs.length cc).ownBlock=some k∨∃z∈cs,BlkCx z k)→¬ k=X)∧Below V.heap.size V WZ):=⟨hbz,HXL.out.1,fz.row (show w2.ownsRow V.heap.size KCx.T KCx.k (.slice cp cs.length cc) cs.length (KCx.cells cs) from q0.1) fun k hk=>hnx k (Or.inl hk),fun z hz=>(q0.2.1 z hz).fr fz fun k hk=>hnx k (Or.inr ⟨z,hz,hk⟩),q0.2.2,hnx,HBZ.out⟩
    have hSz:=HS.out WZ HBZ.out
    clear hbz fz hz hnx q0
    refine wpAnyH_ready (rs:=[12]) (by kernel_rfl) (by simp) ?_
    refine AllReadyH.cons (at_drop0 rfl) (fun K hK=>?_) AllReadyH.nil
    rw [if_pos (by rfl)]
    go_simp
    go_wp2_with fail
    try rw [hWZ]
    refine hK.out _ _ hSz (fun hHeld=>?_)
    clear hK K
    try simp only [Act.put,sz]
    clear hSz
    refine wpAnyH_done (by kernel_rfl) ?_ _
    clear y0 y1 y2 y3 y4 y5 z0 z1 z2 z3 z4 z5 hWZ
    go_wp2_with fail
    go_meet
    exact ⟨X,cp,cc,cs,rfl,HFIN.out⟩
  case rest =>
   obtain ⟨X,cp,cc,cs,rfl,HC⟩:=hcut
   obtain ⟨hx,hXV,hco,hce,hcm,hnx,hbc⟩:=HC.out
   have HCK2:=hid fun n=>HCK.out (wc.drewN n) cp cc cs (bel_drewN hbc n) (Kind.own_on hco (bel_drewN (Below.refl _ wc) n)) (fun z hz=>(hce z hz).on (bel_drewN (Below.refl _ wc) n)) hcm
   have HCO:=hid (And.intro hco (And.intro hce (And.intro hcm hnx)))
   have HBC:=hid hbc
   have HXX:=hid hx
   have HXV:=hid hXV
   obtain ⟨_,t2,_,_,t4⟩:=HS.out wc hbc
   have d0:wc.cell? ⟨X,0,none⟩=some (.int .u64 snap):=cz hx
   have d1:wc.cell? ⟨X,1,none⟩=some (.int .u64 0):=cz hx
   have d2:wc.cell? ⟨X,2,none⟩=some (.bool false):=cz hx
   have d3:wc.cell? ⟨X,3,none⟩=some (.slice mkp mks.length mkc):=cz hx
   have d4:wc.cell? ⟨X,4,none⟩=some (.slice mrp mrs.length mrc):=cz hx
   have d5:wc.cell? ⟨X,5,none⟩=some (.slice cp cs.length cc):=cz hx
   have HSB:Hid (∀w',Below wc.heap.size wc w'→w'.cell? ⟨g,2,none⟩=some (.pointer (some ⟨h,0,none⟩))∧w'.cell? ⟨h,4,none⟩=some (.pointer (some ⟨ht,0,none⟩))∧w'.cell? ⟨X,0,none⟩=some (.int .u64 snap)∧w'.cell? ⟨X,3,none⟩=some (.slice mkp mks.length mkc)∧w'.cell? ⟨X,4,none⟩=some (.slice mrp mrs.length mrc)∧w'.cell? ⟨X,5,none⟩=some (.slice cp cs.length cc)):=fun w' hb=>⟨(hb.cell (cell_block t2)).trans t2,(hb.cell (cell_block t4)).trans t4,(hb.cell (cell_block d0)).trans d0,(hb.cell (cell_block d3)).trans d3,(hb.cell (cell_block d4)).trans d4,(hb.cell (cell_block d5)).trans d5⟩
   clear hx hco hce hcm hnx hbc HC HS HCH hXV HCK HBW
   go_upto_region 4 with fail
   refine wp_region_held_drew (S:=fun w'=>w'.cell? ⟨g,2,none⟩=some (.pointer (some ⟨h,0,none⟩))∧w'.cell? ⟨h,4,none⟩=some (.pointer (some ⟨ht,0,none⟩))∧w'.cell? ⟨X,0,none⟩=some (.int .u64 snap)∧w'.cell? ⟨X,3,none⟩=some (.slice mkp mks.length mkc)∧w'.cell? ⟨X,4,none⟩=some (.slice mrp mrs.length mrc)∧w'.cell? ⟨X,5,none⟩=some (.slice cp cs.length cc)) (by kernel_rfl) ⟨t2,t4,d0,d3,d4,d5⟩ (fun hHeld=>?_)
   refine tkv 0 (.pointer (some ⟨g,0,none⟩)) hHeld ?_
   simp only [Act.put,sz]
   refine tkv 1 (.pointer (some ⟨g,0,none⟩)) hHeld ?_
   simp only [Act.put,sz]
   refine tkv 2 (.pointer (some ⟨g,2,none⟩)) hHeld ?_
   simp only [Act.put,sz]
   refine tkv 3 (.pointer (some ⟨h,0,none⟩)) hHeld ?_
   simp only [Act.put,sz]
   refine tkv 4 (.pointer (some ⟨h,0,none⟩)) hHeld ?_
   simp only [Act.put,sz]
   refine tkv 5 (.pointer (some ⟨h,0,none⟩)) hHeld ?_
   simp only [Act.put,sz]
   refine tkv 6 (.pointer (some ⟨h,4,none⟩)) hHeld ?_
   simp only [Act.put,sz]
   refine tkv 7 (.pointer (some ⟨ht,0,none⟩)) hHeld ?_
   simp only [Act.put,sz]
   refine tkv 8 (.pointer (some ⟨X,0,none⟩)) hHeld ?_
   simp only [Act.put,sz]
   refine tkv 9 (.int .u64 snap) hHeld ?_
   simp only [Act.put,sz]
   refine tkv 10 (.pointer (some ⟨X,3,none⟩)) hHeld ?_
   simp only [Act.put,sz]
   refine tkv 11 (.agg #[.slice mkp mks.length mkc,.slice mrp mrs.length mrc]) hHeld ?_
   simp only [Act.put,sz]
   refine tkv 12 (.pointer (some ⟨X,5,none⟩)) hHeld ?_
   simp only [Act.put,sz]
   refine tkv 13 (.slice cp cs.length cc) hHeld ?_
   simp only [Act.put,sz]
   clear hHeld t2 t4 d0 d1 d2 d3 d4 d5
   refine wpAnyH_ready (rs:=[14]) (by kernel_rfl) (by simp) ?_
   refine AllReadyH.cons (at_drop0 rfl) (fun K hK=>?_) AllReadyH.nil
   rw [if_pos (by rfl)]
   go_simp
   refine (HCK2.out 1).mono ?_
   rintro e4 w4 ⟨rfl,hb4⟩
   have hb4':Below wc.heap.size wc w4:=bel_then (bel_drewN (Below.refl wc.heap.size wc) 1) (by simp) hb4
   have hS4:=HSB.out w4 hb4'
   have hx4:w4.heap[X]? = some (.cells #[.int .u64 snap,.int .u64 0,.bool false,.slice mkp mks.length mkc,.slice mrp mrs.length mrc,.slice cp cs.length cc] 177 (0,0)):=(hb4'.block X (Array.getElem?_eq_some_iff.1 HXX.out).1).trans HXX.out
   have HB4:=hid hb4'
   clear hb4 hb4' HCK2 HSB
   go_wp2_with fail
   refine hK.out _ _ hS4 (fun hHeld=>?_)
   clear hK K
   try simp only [Act.put,sz]
   clear hS4
   refine tkv 15 (.tuple #[.bool OU,.int .i64 cd]) hHeld ?_
   simp only [Act.put,sz]
   refine tkv 16 (.bool OU) hHeld ?_
   simp only [Act.put,sz]
   refine tkv 18 (.bool OU) hHeld ?_
   simp only [Act.put,sz]
   refine tkv 17 (.int .i64 cd) hHeld ?_
   simp only [Act.put,sz]
   refine tkv 19 (.int .i64 cd) hHeld ?_
   simp only [Act.put,sz]
   refine wpAnyH_done (by kernel_rfl) ?_ _
   obtain ⟨W5,hW5⟩:∃W5,w4.setCell ⟨X,2,none⟩ (.bool OU)=W5:=⟨_,rfl⟩
   have hx5:W5.heap[X]? = some (.cells #[.int .u64 snap,.int .u64 0,.bool OU,.slice mkp mks.length mkc,.slice mrp mrs.length mrc,.slice cp cs.length cc] 177 (0,0)):=by
    rw [←hW5]
    exact heap_setCell_same w4 X 2 _ _ _ hx4
   have f5:Fr (fun b=>b=X) w4 W5:=by rw [←hW5];exact fr_set5 w4 X 2 _
   have hbV4:Below V.heap.size V w4:=bel_then HBC.out HBC.out.size HB4.out
   have hbV5:Below V.heap.size V W5:=hbV4.trans (f5.below hbV4.size fun k hk=>by have:=HXV.out;omega)
   have hz:=HRB.out W5 hbV5
   have HCO5:Hid (KCx.Own V.heap.size W5 (.slice cp cs.length cc) cs∧(∀z∈cs,COwn V.heap.size W5 z)∧cs.map Cx.ch=CH):=by
    obtain ⟨q1,q2,q3,q4⟩:=HCO.out
    refine ⟨f5.row (show w4.ownsRow V.heap.size KCx.T KCx.k (.slice cp cs.length cc) cs.length (KCx.cells cs) from Kind.own_on q1 HB4.out) fun k hk=>q4 k (Or.inl hk),fun z hz=>((q2 z hz).on HB4.out).fr f5 fun k hk=>q4 k (Or.inr ⟨z,hz,hk⟩),q3⟩
   have s2:w4.cell? ⟨X,2,none⟩=some (.bool false):=cz hx4
   have sf:=Lib.frozen_of_heap hx4 2
   have d0:W5.cell? ⟨X,0,none⟩=some (.int .u64 snap):=cz hx5
   have d1:W5.cell? ⟨X,1,none⟩=some (.int .u64 0):=cz hx5
   have d2:W5.cell? ⟨X,2,none⟩=some (.bool OU):=cz hx5
   have d3:W5.cell? ⟨X,3,none⟩=some (.slice mkp mks.length mkc):=cz hx5
   have d4:W5.cell? ⟨X,4,none⟩=some (.slice mrp mrs.length mrc):=cz hx5
   have d5:W5.cell? ⟨X,5,none⟩=some (.slice cp cs.length cc):=cz hx5
   obtain ⟨WZ,hWZ⟩:∃WZ,((((((W5.setCell ⟨Q,0,none⟩ (.int .u64 snap)).setCell ⟨Q,1,none⟩ (.int .u64 0)).setCell ⟨Q,2,none⟩ (.bool OU)).setCell ⟨Q,3,none⟩ (.slice mkp mks.length mkc)).setCell ⟨Q,4,none⟩ (.slice mrp mrs.length mrc)).setCell ⟨Q,5,none⟩ (.slice cp cs.length cc))=WZ:=⟨_,rfl⟩
   have hbz:WZ.heap[Q]? = some (.cells #[.int .u64 snap,.int .u64 0,.bool OU,.slice mkp mks.length mkc,.slice mrp mrs.length mrc,.slice cp cs.length cc] 177 (0,0)):=by
    rw [←hWZ]
    exact heap_setCell_same _ Q 5 _ _ _ (heap_setCell_same _ Q 4 _ _ _ (heap_setCell_same _ Q 3 _ _ _ (heap_setCell_same _ Q 2 _ _ _ (heap_setCell_same _ Q 1 _ _ _ (heap_setCell_same _ Q 0 _ _ _ hz)))))
   have fz:Fr (fun b=>b=Q) W5 WZ:=by
    rw [←hWZ]
    exact (((((fr_set5 W5 Q 0 _).then (fr_set5 _ Q 1 _) fun k hk=>Or.inl hk).then (fr_set5 _ Q 2 _) fun k hk=>Or.inl hk).then (fr_set5 _ Q 3 _) fun k hk=>Or.inl hk).then (fr_set5 _ Q 4 _) fun k hk=>Or.inl hk).then (fr_set5 _ Q 5 _) fun k hk=>Or.inl hk
   have y0:W5.cell? ⟨Q,0,none⟩=some (.int .u64 0):=cz hz
   have z0:=Lib.frozen_of_heap hz 0
   have y1:W5.cell? ⟨Q,1,none⟩=some (.int .u64 0):=cz hz
   have z1:=Lib.frozen_of_heap hz 1
   have y2:W5.cell? ⟨Q,2,none⟩=some (.bool false):=cz hz
   have z2:=Lib.frozen_of_heap hz 2
   have y3:W5.cell? ⟨Q,3,none⟩=some (.slice none 0 0):=cz hz
   have z3:=Lib.frozen_of_heap hz 3
   have y4:W5.cell? ⟨Q,4,none⟩=some (.slice none 0 0):=cz hz
   have z4:=Lib.frozen_of_heap hz 4
   have y5:W5.cell? ⟨Q,5,none⟩=some (.slice none 0 0):=cz hz
   have z5:=Lib.frozen_of_heap hz 5
   have g0:WZ.cell? ⟨Q,0,none⟩=some (.int .u64 snap):=cz hbz
   have g1:WZ.cell? ⟨Q,1,none⟩=some (.int .u64 0):=cz hbz
   have g2:WZ.cell? ⟨Q,2,none⟩=some (.bool OU):=cz hbz
   have g3:WZ.cell? ⟨Q,3,none⟩=some (.slice mkp mks.length mkc):=cz hbz
   have g4:WZ.cell? ⟨Q,4,none⟩=some (.slice mrp mrs.length mrc):=cz hbz
   have g5:WZ.cell? ⟨Q,5,none⟩=some (.slice cp cs.length cc):=cz hbz
   have HF2:=hid (HFIN.out W5 WZ ⟨snap,0,OU,⟨mkp,mkc,mks,mrp,mrc,mrs⟩,cp,cc,cs⟩ hbV5 fz (fun _=>⟨rfl,rfl,rfl,rfl,HCO5.out.2.2,HCO5.out.1,HCO5.out.2.1⟩) cd rfl)
   simp only [encDx,Mx.ksl,Mx.rsl,Dx.csl] at HF2
   clear hbz fz hz f5 hx4 hx5 hbV4 hbV5 HFIN HRB HCO HCO5
   go_upto_region 6 with fail
   try rw [hW5]
   go_wp2_with fail
   try rw [hWZ]
   exact bodyPost_ret (v:=.tuple #[.agg #[.int .u64 snap,.int .u64 0,.bool OU,.slice mkp mks.length mkc,.slice mrp mrs.length mrc,.slice cp cs.length cc],.int .i64 cd]) (by simp [results,Tryz.results87,go_sem,g0,g1,g2,g3,g4,g5]) rfl HF2.out
end
section
open Go.RowKit
section
variable {nr:Nat} {s:Ps}
theorem FitS.fin (f:FitS nr s) {i:Nat} {y:Px} (hy:s.xs[i]? = some y) (he:y.ended=false) {s3:Ps} (e1:s3.xs=s.xs.set i { y with ended:=true }) (e2:s3.os=closeQ s.os y.id) (e3:s3.vers=s.vers) (e4:s3.nv≤s.nv+y.L.length) (hok:OkS s3.sv):FitS nr s3:=by
 obtain ⟨hi,rfl⟩:=List.getElem?_eq_some_iff.1 hy
 have q:=f.ends hi he
 have hl:(s.xs[i]).load=(s.xs[i]).L.length:=by unfold Px.load;rw [he];rfl
 have h1:=sum_set s.xs i hi { s.xs[i] with ended:=true }
 have h2:=f.room
 have h3:({ s.xs[i] with ended:=true }:Px).load=0:=rfl
 have q2:=q.mks
 have q3:=q.ids
 have q4:=q.nx
 have q5:=q.os
 obtain ⟨a1,a2,a3,a4,a5,a6,a7,a8,a9,a10,a11,a12,a13,a14,a15⟩:=s3
 dsimp only at e1 e2 e3 e4
 subst e1 e2 e3
 refine ⟨?_,q4,q2,q3,q5,hok,f.v4⟩
 show a8+((s.xs.set i { s.xs[i] with ended:=true }).map Px.load).sum≤nr
 omega
end
theorem check_code (t:Tk) (s:Int) (m:Mk) (ch:List Ch):(checkT t s m ch).2=0∨(checkT t s m ch).2=11:=by
 unfold checkT
 repeat' split
 all_goals first|exact Or.inl rfl|exact Or.inr rfl
theorem commit_no {S:Sv} {i:Nat} {x:Tx} (he:x.ended=false) (h:(changesS S.D x).any (lateS S.D x.snap)=true∨(checkT S.tk x.snap x.marks (changesS S.D x)).2≠0):commitS S i x=((0,11),setS S i { x with ended:=true }):=by
 unfold commitS
 rw [if_neg (by rw [he];decide)]
 rcases h with h|h
 ·rw [if_pos h]
 ·by_cases h':(changesS S.D x).any (lateS S.D x.snap)=true
  ·rw [if_pos h']
  ·rw [if_neg h',if_pos h]
theorem commit_wr {s:Ps} {i:Nat} {x:Tx} (he:x.ended=false) (h1:(changesS s.D x).any (lateS s.D x.snap)=false) (h2:(checkT s.tk x.snap x.marks (changesS s.D x)).2=0) :
  ((wrR s (changesS s.D x)).1.2≠0→commitS s.sv i x=((0,(wrR s (changesS s.D x)).1.2),setS s.sv i { x with ended:=true })∧(wrR s (changesS s.D x)).2=s) ∧
  ((wrR s (changesS s.D x)).1.2=0→commitS s.sv i x=(((wrR s (changesS s.D x)).1.1,0),(doneS s.sv i x (changesS s.D x) (checkT s.tk x.snap x.marks (changesS s.D x)).1).2)):=by
 have hc:commitS s.sv i x=if changesS s.D x≠[]∧s.vers<(countD s.D:Int)+((changesS s.D x).length:Int) then ((0,9),setS s.sv i { x with ended:=true })
   else if changesS s.D x≠[]∧s.last=topS then ((0,10),setS s.sv i { x with ended:=true })
   else (((doneS s.sv i x (changesS s.D x) (checkT s.tk x.snap x.marks (changesS s.D x)).1).1,0),(doneS s.sv i x (changesS s.D x) (checkT s.tk x.snap x.marks (changesS s.D x)).1).2):=by
  unfold commitS
  rw [if_neg (by rw [he];decide),if_neg (by show ¬ (changesS s.D x).any (lateS s.D x.snap)=true;rw [h1];decide),if_neg (by show ¬ (checkT s.tk x.snap x.marks (changesS s.D x)).2≠0;rw [h2];decide)]
  rfl
 by_cases hn:changesS s.D x=[]
 ·have hr:wrR s (changesS s.D x)=((0,0),s):=by unfold wrR;rw [if_pos hn]
  rw [hr,hc,if_neg (fun h=>h.1 hn),if_neg (fun h=>h.1 hn)]
  refine ⟨fun h=>absurd rfl h,fun _=>?_⟩
  have e:(doneS s.sv i x (changesS s.D x) (checkT s.tk x.snap x.marks (changesS s.D x)).1).1=0:=by
   unfold doneS
   exact if_pos hn
  rw [e]
 ·by_cases hf:s.vers<(countD s.D:Int)+((changesS s.D x).length:Int)
  ·have hr:wrR s (changesS s.D x)=((0,9),s):=by unfold wrR;rw [if_neg hn,if_pos hf]
   rw [hr,hc,if_pos ⟨hn,hf⟩]
   exact ⟨fun _=>⟨rfl,rfl⟩,fun h=>by have h:(9:Int)=0:=h;omega⟩
  ·by_cases hl:s.last=topS
   ·have hr:wrR s (changesS s.D x)=((0,10),s):=by unfold wrR;rw [if_neg hn,if_neg hf,if_pos hl]
    rw [hr,hc,if_neg (fun h=>hf h.2),if_pos ⟨hn,hl⟩]
    exact ⟨fun _=>⟨rfl,rfl⟩,fun h=>by have h:(10:Int)=0:=h;omega⟩
   ·have hr:(wrR s (changesS s.D x)).1=(s.last+1,0):=by unfold wrR;rw [if_neg hn,if_neg hf,if_neg hl]
    rw [hr,hc,if_neg (fun h=>hf h.2),if_neg (fun h=>hl h.2)]
    refine ⟨fun h=>absurd rfl h,fun _=>?_⟩
    have e:(doneS s.sv i x (changesS s.D x) (checkT s.tk x.snap x.marks (changesS s.D x)).1).1=s.last+1:=by
     unfold doneS
     exact if_neg hn
    rw [e]
theorem done_sv {s:Ps} {i:Nat} {y:Px} (hos:s.os=openS s.sv) (hid:y.id=(i:Int)+1) (ch:List Ch) (hw:(wrR s ch).1.2=0) (out:Bool) :
  ∃s1 s3,(wrR s ch).2=s1∧trR { s1 with xs:=s1.xs.set i { y with ended:=true },os:=closeQ s1.os y.id } ⟨y.snap,s1.last,out,y.m.mk',ch⟩=s3∧s3.sv=(doneS s.sv i y.tx ch out).2∧s3.h=s.h∧s3.xs=s.xs.set i { y with ended:=true }∧s3.os=closeQ s.os y.id∧s3.vers=s.vers∧s3.nv=s.nv+ch.length∧s1.xs=s.xs∧s1.os=s.os∧s1.h=s.h∧s1.last=(if ch=[] then s.last else s.last+1)∧(ch≠[]→s.last≠topS):=by
 have hsx:∀s1:Ps,s1.xs=s.xs→(s1.xs.set i { y with ended:=true }).map Px.tx=(setS s.sv i { y.tx with ended:=true }).txs:=fun s1 e=>by
  rw [e]
  show _=(s.xs.map Px.tx).set i _
  rw [List.map_set]
  rfl
 have hop:∀S2:Sv,S2.txs=(setS s.sv i { y.tx with ended:=true }).txs→openS S2=closeQ s.os y.id:=fun S2 e=>by
  have q:openS S2=openS (setS s.sv i { y.tx with ended:=true }):=by unfold openS;rw [e]
  rw [q,openS_set,hos,hid]
  show (openS s.sv).set i none=closeQ (openS s.sv) ((i:Int)+1)
  unfold closeQ
  rw [if_pos (by omega),show ((i:Int)+1-1).toNat=i by omega]
 by_cases hn:ch=[]
 ·have hr:(wrR s ch).2=s:=by unfold wrR;rw [if_pos hn]
  subst hn
  obtain ⟨s2,hs2⟩:∃s2,({ s with xs:=s.xs.set i { y with ended:=true },os:=closeQ s.os y.id }:Ps)=s2:=⟨_,rfl⟩
  have hsv2:s2.sv=setS s.sv i { y.tx with ended:=true }:=by
   rw [←hs2]
   show Sv.mk _ _ _ _ _ _ ((s.xs.set i { y with ended:=true }).map Px.tx)=_
   rw [hsx s rfl]
   rfl
  have hp:s2.h=s.h∧s2.xs=s.xs.set i { y with ended:=true }∧s2.os=closeQ s.os y.id∧s2.vers=s.vers∧s2.nv=s.nv+([]:List Ch).length:=by
   rw [←hs2]
   exact ⟨rfl,rfl,rfl,rfl,rfl⟩
  by_cases hm:y.m.mk'=([],[])
  ·have e1:trR s2 ⟨y.snap,s.last,out,y.m.mk',[]⟩=s2:=by
    unfold trR
    exact if_pos ⟨rfl,hm⟩
   have e2:(doneS s.sv i y.tx [] out).2=setS s.sv i { y.tx with ended:=true }:=by
    show (if ([]:List Ch)=[]∧y.tx.marks=([],[]) then (if ([]:List Ch)=[] then _ else _) else _)=_
    rw [if_pos ⟨rfl,hm⟩,if_pos rfl]
   exact ⟨s,s2,hr,by rw [hs2];exact e1,by rw [e2];exact hsv2,hp.1,hp.2.1,hp.2.2.1,hp.2.2.2.1,hp.2.2.2.2,rfl,rfl,rfl,by rw [if_pos rfl],fun h=>absurd rfl h⟩
  ·have e1:trR s2 ⟨y.snap,s.last,out,y.m.mk',[]⟩={ s2 with tk:=dropT (addT s2.tk ⟨y.snap,s.last,out,y.m.mk',[]⟩).2 (leastQ s2.os s2.last) }:=by
    unfold trR
    exact if_neg fun h=>hm h.2
   have hl:leastS (setS s.sv i { y.tx with ended:=true })=leastQ (closeQ s.os y.id) s.last:=by
    unfold leastS
    rw [hop _ rfl]
    rfl
   have e2:(doneS s.sv i y.tx [] out).2={ setS s.sv i { y.tx with ended:=true } with tk:=dropT (addT s.tk ⟨y.snap,s.last,out,y.m.mk',[]⟩).2 (leastQ (closeQ s.os y.id) s.last) }:=by
    rw [←hl]
    show (if ([]:List Ch)=[]∧y.tx.marks=([],[]) then _ else _)=_
    rw [if_neg fun h=>hm h.2]
    rfl
   refine ⟨s,{ s2 with tk:=dropT (addT s2.tk ⟨y.snap,s.last,out,y.m.mk',[]⟩).2 (leastQ s2.os s2.last) },hr,by rw [hs2];exact e1,?_,hp.1,hp.2.1,hp.2.2.1,hp.2.2.2.1,hp.2.2.2.2,rfl,rfl,rfl,by rw [if_pos rfl],fun h=>absurd rfl h⟩
   rw [e2,←hs2]
   show Sv.mk _ _ _ _ _ _ ((s.xs.set i { y with ended:=true }).map Px.tx)=_
   rw [hsx s rfl]
   rfl
 ·have hr:¬ s.vers<(countD s.D:Int)+(ch.length:Int)∧s.last≠topS:=by
   unfold wrR at hw
   rw [if_neg hn] at hw
   constructor
   ·intro h
    rw [if_pos h] at hw
    have hw:(9:Int)=0:=hw
    omega
   ·intro h
    split at hw
    ·have hw:(9:Int)=0:=hw
     omega
    ·simp at hw
  have hr2:(wrR s ch).2={ s with last:=s.last+1,nv:=s.nv+ch.length,D:=putAll s.D ch (s.last+1) s.tick }:=by
   unfold wrR
   rw [if_neg hn,if_neg hr.1,if_neg hr.2]
  obtain ⟨s2,hs2⟩:∃s2,({ ({ s with last:=s.last+1,nv:=s.nv+ch.length,D:=putAll s.D ch (s.last+1) s.tick }:Ps) with xs:=s.xs.set i { y with ended:=true },os:=closeQ s.os y.id }:Ps)=s2:=⟨_,rfl⟩
  have hp:s2.h=s.h∧s2.xs=s.xs.set i { y with ended:=true }∧s2.os=closeQ s.os y.id∧s2.vers=s.vers∧s2.nv=s.nv+ch.length:=by
   rw [←hs2]
   exact ⟨rfl,rfl,rfl,rfl,rfl⟩
  have e1:trR s2 ⟨y.snap,s.last+1,out,y.m.mk',ch⟩={ s2 with tk:=dropT (addT s2.tk ⟨y.snap,s.last+1,out,y.m.mk',ch⟩).2 (leastQ s2.os s2.last) }:=by
   unfold trR
   exact if_neg fun h=>hn h.1
  have hl:leastS { setS s.sv i { y.tx with ended:=true } with last:=s.last+1,D:=putAll s.D ch (s.last+1) s.tick }=leastQ (closeQ s.os y.id) (s.last+1):=by
   have q:=hop { setS s.sv i { y.tx with ended:=true } with last:=s.last+1,D:=putAll s.D ch (s.last+1) s.tick } rfl
   show leastQ (openS { setS s.sv i { y.tx with ended:=true } with last:=s.last+1,D:=putAll s.D ch (s.last+1) s.tick }) (s.last+1)=_
   rw [q]
  have e2:(doneS s.sv i y.tx ch out).2={ setS s.sv i { y.tx with ended:=true } with last:=s.last+1,D:=putAll s.D ch (s.last+1) s.tick,tk:=dropT (addT s.tk ⟨y.snap,s.last+1,out,y.m.mk',ch⟩).2 (leastQ (closeQ s.os y.id) (s.last+1)) }:=by
   rw [←hl]
   unfold doneS
   simp only [hn,false_and,if_false]
   rfl
  refine ⟨{ s with last:=s.last+1,nv:=s.nv+ch.length,D:=putAll s.D ch (s.last+1) s.tick },{ s2 with tk:=dropT (addT s2.tk ⟨y.snap,s.last+1,out,y.m.mk',ch⟩).2 (leastQ s2.os s2.last) },hr2,by rw [hs2];exact e1,?_,hp.1,hp.2.1,hp.2.2.1,hp.2.2.2.1,hp.2.2.2.2,rfl,rfl,rfl,by rw [if_neg hn],fun _=>hr.2⟩
  rw [e2,←hs2]
  show Sv.mk _ _ _ _ _ _ ((s.xs.set i { y with ended:=true }).map Px.tx)=_
  rw [hsx s rfl]
  rfl
end
section
open Go.RowKit
def XsT (n0 nr:Nat) (W:World) (h:Nat) (gs:List Nat) (c:Nat→Nat) (r:Int × Int) (S':Sv) (e:Ending) (w':World):Prop:=e=.returned (.tuple #[.int .u64 r.1,.int .i64 r.2])∧StepP n0 nr W h gs c S' w'
set_option linter.unusedSimpArgs false in
set_option maxHeartbeats 1500000 in
set_option maxRecDepth 100000 in
theorem xcommit_any {n0 nr:Nat} {W:World} {s:Ps} {c:Nat→Nat} (x:PrgB n0 W s c) (f:FitS nr s) (hn:nr≤1300000000000) {i:Nat} {y:Px} (hy:s.xs[i]? = some y) :
  Calls Tryz.prog 28 #[.pointer (some ⟨y.g,0,none⟩)] W fun e w'=>XsT n0 nr W s.h (s.xs.map Px.g) c (commitS s.sv i y.tx).1 (commitS s.sv i y.tx).2 e w':=by
 have HE:=hid (x.endis hy W (Below.refl _ _))
 cases hE:y.ended with
 | true =>
  have hcm:commitS s.sv i y.tx=((0,12),s.sv):=by
   unfold commitS
   rw [if_pos (show y.tx.ended=true from hE)]
  rw [hE] at HE
  have HFIN:Hid (XsT n0 nr W s.h (s.xs.map Px.g) c (commitS s.sv i y.tx).1 (commitS s.sv i y.tx).2 (.returned (.tuple #[.int .u64 0,.int .i64 12])) W):=by
   show XsT _ _ _ _ _ _ _ _ _ _
   rw [hcm]
   exact ⟨rfl,(Mid.start x f (Nat.le_refl nr) (Below.refl _ _)).step rfl⟩
  generalize commitS s.sv i y.tx=R at *
  generalize y.g=g at *
  clear x f hy hE hn hcm
  go_enter Tryz.func28,Tryz.ntmps28
  go_wp2_with fail
  refine HE.out.mono ?_
  rintro e1 w1 ⟨rfl,rfl⟩
  go_wp2_with fail
  go_ret2
  exact HFIN.out
 | false =>
  rw [hE] at HE
  have HCK:=hid (xchecked_any x f hn hy hE)
  obtain ⟨hid1,hid2⟩:=f.idb hy hE
  have hfid:MU.fit y.id:=fit_q (by omega) (by omega)
  have hcg:c y.g=7+3 * i:=by
   obtain ⟨hi,rfl⟩:=List.getElem?_eq_some_iff.1 hy
   exact (x.txo i hi).2.2
  have HCE:Hid (∀w',Below W.heap.size W w'→w'.cell? ⟨y.g,2,none⟩=some (.pointer (some ⟨s.h,0,none⟩))):=fun w' hb=>((x.on hb).xat hy hE).xc.2.2.1
  have hlen:=f.nx
  have hlod:=f.lod hy hE
  have hchl:(changesS s.D y.tx).length=y.L.length:=by
   unfold changesS
   rw [if_neg (by show ¬ y.ended=true;rw [hE];decide),List.length_map]
   rfl
  have HEND:Hid (∀(s1:Ps) (c1:Nat→Nat) (w:World),PrgB n0 w s1 c1→s1.xs=s.xs→s1.os=s.os→(∀k,k<W.heap.size→c1 k=c k)→Fr (fun k=>c k=2∨c k=5) W w→w.cell? ⟨y.g,2,none⟩=some (.pointer (some ⟨s1.h,0,none⟩))∧Calls Tryz.prog 89 #[.pointer (some ⟨y.g,0,none⟩)] w fun e w'=>e=.returned (.tuple #[])∧∃c2,PrgB n0 w' { s1 with xs:=s1.xs.set i { y with ended:=true },os:=closeQ s1.os y.id } c2∧(∀k,k<w.heap.size→c2 k=c1 k)∧Fr (fun k=>c1 k=4∨c1 k=7+3 * i) w w'):=fun s1 c1 w q e1 e2 hc1 fr=>by
   have hy1:s1.xs[i]? = some y:=by rw [e1];exact hy
   exact ⟨(q.xat hy1 hE).xc.2.2.1,xend_any q hy1 hE hfid⟩
  by_cases hno:(changesS s.D y.tx).any (lateS s.D y.snap)=true∨(checkT s.tk y.snap y.m.mk' (changesS s.D y.tx)).2≠0
  ·have hcm:=commit_no (S:=s.sv) (i:=i) (x:=y.tx) hE hno
   have hcd:(if (changesS s.D y.tx).any (lateS s.D y.snap) then (11:Int) else (checkT s.tk y.snap y.m.mk' (changesS s.D y.tx)).2)=11:=by
    rcases hno with h|h
    ·rw [if_pos h]
    ·split
     ·rfl
     ·rcases check_code s.tk y.snap y.m.mk' (changesS s.D y.tx) with q|q
      ·exact absurd q h
      ·exact q
   have HFIN:Hid (∀(c2:Nat→Nat) (w w':World),Below W.heap.size W w→PrgB n0 w' { s with xs:=s.xs.set i { y with ended:=true },os:=closeQ s.os y.id } c2→(∀k,k<w.heap.size→c2 k=c k)→Fr (fun k=>c k=4∨c k=7+3 * i) w w'→XsT n0 nr W s.h (s.xs.map Px.g) c (commitS s.sv i y.tx).1 (commitS s.sv i y.tx).2 (.returned (.tuple #[.int .u64 0,.int .i64 11])) w'):=fun c2 w w' hb q hc2 fr=>by
    rw [hcm]
    refine ⟨rfl,c2,⟨_,q,?_,rfl,set_gs hy rfl,sv_set s i { y with ended:=true }⟩,Fr.then (Fr.of_below hb) fr fun k hk=>Or.inl (by omega),fun k hk=>hc2 k (Nat.lt_of_lt_of_le hk hb.size)⟩
    obtain ⟨hi,rfl⟩:=List.getElem?_eq_some_iff.1 hy
    exact f.ends hi hE
   have HEN2:Hid (∀w,Below W.heap.size W w→Calls Tryz.prog 89 #[.pointer (some ⟨y.g,0,none⟩)] w fun e w'=>e=.returned (.tuple #[])∧XsT n0 nr W s.h (s.xs.map Px.g) c (commitS s.sv i y.tx).1 (commitS s.sv i y.tx).2 (.returned (.tuple #[.int .u64 0,.int .i64 11])) w'):=fun w hb=>(HEND.out s c w (x.on hb) rfl rfl (fun _ _=>rfl) (Fr.of_below hb)).2.mono fun e w' q=>by
    obtain ⟨q0,c2,q1,q2,q3⟩:=q
    exact ⟨q0,HFIN.out c2 w w' hb q1 q2 q3⟩
   unfold CkPost at HCK
   rw [hcd] at HCK
   generalize commitS s.sv i y.tx=R at *
   generalize (changesS s.D y.tx).any (lateS s.D y.snap)=LT at *
   generalize checkT s.tk y.snap y.m.mk' (changesS s.D y.tx)=CK at *
   generalize changesS s.D y.tx=CH at *
   generalize y.g=g at *
   generalize s.h=h at *
   clear x f hn hy hE hid1 hid2 hfid hcg hlen hlod hchl hno hcm hcd HEND HFIN
   go_enter Tryz.func28,Tryz.ntmps28
   go_wp2_with fail
   refine HE.out.mono ?_
   rintro e0 W ⟨rfl,rfl⟩
   go_wp2_with fail
   refine HCK.out.mono ?_
   rintro e1 w1 ⟨d,rfl,hd,hb1⟩
   obtain ⟨X,hX⟩:∃X,w1.heap.size=X:=⟨_,rfl⟩
   obtain ⟨V0,hV0⟩:∃V0,w1.alloc (.cells #[.int .u64 0,.int .u64 0,.bool false,.slice none 0 0,.slice none 0 0,.slice none 0 0] 177)=V0:=⟨_,rfl⟩
   have hv0:V0.heap[X]? = some (.cells #[.int .u64 0,.int .u64 0,.bool false,.slice none 0 0,.slice none 0 0,.slice none 0 0] 177 (0,0)):=by rw [←hV0,←hX];exact heap_alloc_new w1 _
   have hal:Below w1.heap.size w1 V0:=by rw [←hV0];exact (Below.refl _ _).alloc (Nat.le_refl _) _
   have HD0:=hid hd
   obtain ⟨dsn,dst,dou,⟨mkp,mkc,mks,mrp,mrc,mrs⟩,cp,cc,cs⟩:=d
   simp only [encDx,Mx.ksl,Mx.rsl,Dx.csl] at *
   obtain ⟨V,hV⟩:∃V,((((((V0.setCell ⟨X,0,none⟩ (.int .u64 dsn)).setCell ⟨X,1,none⟩ (.int .u64 dst)).setCell ⟨X,2,none⟩ (.bool dou)).setCell ⟨X,3,none⟩ (.slice mkp mks.length mkc)).setCell ⟨X,4,none⟩ (.slice mrp mrs.length mrc)).setCell ⟨X,5,none⟩ (.slice cp cs.length cc))=V:=⟨_,rfl⟩
   have hvx:V.heap[X]? = some (.cells #[.int .u64 dsn,.int .u64 dst,.bool dou,.slice mkp mks.length mkc,.slice mrp mrs.length mrc,.slice cp cs.length cc] 177 (0,0)):=by
    rw [←hV]
    exact heap_setCell_same _ X 5 _ _ _ (heap_setCell_same _ X 4 _ _ _ (heap_setCell_same _ X 3 _ _ _ (heap_setCell_same _ X 2 _ _ _ (heap_setCell_same _ X 1 _ _ _ (heap_setCell_same _ X 0 _ _ _ hv0)))))
   have fv:Fr (fun b=>b=X) V0 V:=by
    rw [←hV]
    exact (((((fr_set5 V0 X 0 _).then (fr_set5 _ X 1 _) fun k hk=>Or.inl hk).then (fr_set5 _ X 2 _) fun k hk=>Or.inl hk).then (fr_set5 _ X 3 _) fun k hk=>Or.inl hk).then (fr_set5 _ X 4 _) fun k hk=>Or.inl hk).then (fr_set5 _ X 5 _) fun k hk=>Or.inl hk
   have hb1V:Below w1.heap.size w1 V:=hal.trans (fv.below hal.size fun k hk=>by omega)
   have HBV:=hid (bel_then hb1 hb1.size hb1V)
   have HB1V:=hid hb1V
   have HVX:=hid hvx
   have HXW:Hid (W.heap.size≤X):=by show _≤_;rw [←hX];exact hb1.size
   have y0:V0.cell? ⟨X,0,none⟩=some (.int .u64 0):=cz hv0
   have z0:=Lib.frozen_of_heap hv0 0
   have y1:V0.cell? ⟨X,1,none⟩=some (.int .u64 0):=cz hv0
   have z1:=Lib.frozen_of_heap hv0 1
   have y2:V0.cell? ⟨X,2,none⟩=some (.bool false):=cz hv0
   have z2:=Lib.frozen_of_heap hv0 2
   have y3:V0.cell? ⟨X,3,none⟩=some (.slice none 0 0):=cz hv0
   have z3:=Lib.frozen_of_heap hv0 3
   have y4:V0.cell? ⟨X,4,none⟩=some (.slice none 0 0):=cz hv0
   have z4:=Lib.frozen_of_heap hv0 4
   have y5:V0.cell? ⟨X,5,none⟩=some (.slice none 0 0):=cz hv0
   have z5:=Lib.frozen_of_heap hv0 5
   clear hv0 hal fv hb1V hb1 hd HCK HE
   have cE:=HCE.out V HBV.out
   have HEN3:=hid (HEN2.out V HBV.out)
   clear HEN2 HCE HD0 HVX hvx
   go_upto_region 5 with fail
   try rw [hX]
   try rw [hV0]
   try rw [hV]
   clear y0 y1 y2 y3 y4 y5 z0 z1 z2 z3 z4 z5
   go_wp2_with fail
   refine HEN3.out.mono ?_
   rintro e2 w2 ⟨rfl,hq⟩
   have HQ:=hid hq
   clear hq HEN3 cE
   go_wp2_with fail
   go_ret2
   exact HQ.out
  ·have hla:(changesS s.D y.tx).any (lateS s.D y.snap)=false:=by
    cases h:(changesS s.D y.tx).any (lateS s.D y.snap) with
    | true=>exact absurd (Or.inl h) hno
    | false=>rfl
   have hck:(checkT s.tk y.snap y.m.mk' (changesS s.D y.tx)).2=0:=by
    rcases Int.decEq (checkT s.tk y.snap y.m.mk' (changesS s.D y.tx)).2 0 with h|h
    ·exact absurd (Or.inr h) hno
    ·exact h
   obtain ⟨hcw1,hcw2⟩:=commit_wr (s:=s) (i:=i) (x:=y.tx) hE hla hck
   have hlast:0≤s.last:=by have h1:=f.ok.fl;have h2:=f.ok.fl0;exact Int.le_trans h2 h1
   have htop:s.last≤topS:=f.ok.top
   have hcn:(countD s.D:Int)≤4096:=by have h1:=f.ok.cnt;have h2:=f.v4;exact Int.le_trans h1 h2
   have hkf:∀cs:List Cx,cs.map Cx.ch=changesS s.D y.tx→∀z∈cs,FitK (z.a,z.b):=fun cs hcs z hz=>by
    have q:z.ch∈changesS s.D y.tx:=by rw [←hcs];exact List.mem_map_of_mem hz
    rw [changes_is (f.okw hy).wr (show y.tx.ended=false from hE)] at q
    obtain ⟨k,hk,q⟩:=List.mem_map.1 q
    have q3:k=(z.a,z.b):=congrArg Ch.key q
    rw [←q3]
    unfold keysW at hk
    obtain ⟨r,hr,rfl⟩:=List.mem_map.1 hk
    exact key_fit ((f.okw hy).wr.key r hr)
   have HWR:Hid (∀(w:World) (cp:Option Addr) (cc:Nat) (cs:List Cx),Below W.heap.size W w→KCx.Own W.heap.size w (.slice cp cs.length cc) cs→(∀z∈cs,COwn W.heap.size w z)→cs.map Cx.ch=changesS s.D y.tx→Calls Tryz.prog 88 #[.pointer (some ⟨s.h,0,none⟩),.slice cp cs.length cc] w fun e w'=>WrPost n0 w c (wrR s (changesS s.D y.tx)) e w'):=fun w cp cc cs hb ho he hcs=>by
    rw [←hcs]
    refine swrite_any (x.on hb) hlast htop hcn _ cs ho he (hkf cs hcs) x.out ?_
    have q:=congrArg List.length hcs
    rw [List.length_map] at q
    omega
   have HEN2:Hid (∀(c1:Nat→Nat) (w w1:World),Below W.heap.size W w→PrgB n0 w1 (wrR s (changesS s.D y.tx)).2 c1→(∀k,k<w.heap.size→c1 k=c k)→Fr (fun k=>c k=2∨c k=5) w w1→w1.cell? ⟨y.g,2,none⟩=some (.pointer (some ⟨s.h,0,none⟩))∧Calls Tryz.prog 89 #[.pointer (some ⟨y.g,0,none⟩)] w1 fun e w'=>e=.returned (.tuple #[])∧((wrR s (changesS s.D y.tx)).1.2≠0→XsT n0 nr W s.h (s.xs.map Px.g) c (commitS s.sv i y.tx).1 (commitS s.sv i y.tx).2 (.returned (.tuple #[.int .u64 0,.int .i64 (wrR s (changesS s.D y.tx)).1.2])) w') ∧
     ((wrR s (changesS s.D y.tx)).1.2=0→(∀k,W.heap.size≤k→k<w.heap.size→w'.heap[k]? = w.heap[k]?)∧∀d:Dx,d.snap=y.snap→d.out=(checkT s.tk y.snap y.m.mk' (changesS s.D y.tx)).1→d.m=y.m→d.cs.map Cx.ch=changesS s.D y.tx→(0≤d.stamp∧d.stamp≤18446744073709551615)→KCx.Own W.heap.size w d.csl d.cs→(∀z∈d.cs,COwn W.heap.size w z)→Calls Tryz.prog 90 #[.pointer (some ⟨s.h,0,none⟩),.agg (encDx d).toArray] w' fun e w2=>e=.returned (.tuple #[])∧XsT n0 nr W s.h (s.xs.map Px.g) c (commitS s.sv i y.tx).1 (commitS s.sv i y.tx).2 (.returned (.tuple #[.int .u64 (wrR s (changesS s.D y.tx)).1.1,.int .i64 0])) w2)):=fun c1 w w1 hb q hc1 fr=>by
    have hsx:(wrR s (changesS s.D y.tx)).2.xs=s.xs∧(wrR s (changesS s.D y.tx)).2.os=s.os∧(wrR s (changesS s.D y.tx)).2.h=s.h:=by
     unfold wrR
     split
     ·exact ⟨rfl,rfl,rfl⟩
     ·split
      ·exact ⟨rfl,rfl,rfl⟩
      ·split<;>exact ⟨rfl,rfl,rfl⟩
    have hc1W:∀k,k<W.heap.size→c1 k=c k:=fun k hk=>hc1 k (Nat.lt_of_lt_of_le hk hb.size)
    have frW:Fr (fun k=>c k=2∨c k=5) W w1:=Fr.then (Fr.of_below hb) fr fun k hk=>Or.inl hk
    obtain ⟨p1,p2⟩:=HEND.out _ c1 w1 q hsx.1 hsx.2.1 hc1W frW
    rw [hsx.2.2] at p1
    refine ⟨p1,p2.mono fun e w' r=>?_⟩
    obtain ⟨r0,c2,r1,r2,r3⟩:=r
    have frA:Fr (fun k=>c k≠0) W w':=by
     refine Fr.then (frW.mono fun k hk=>by omega) r3 fun k hk=>?_
     by_cases e:k<W.heap.size
     ·refine Or.inl ?_
      have:=hc1W k e
      omega
     ·exact Or.inr (by omega)
    have hcA:∀k,k<W.heap.size→c2 k=c k:=fun k hk=>(r2 k (Nat.lt_of_lt_of_le hk frW.size)).trans (hc1W k hk)
    refine ⟨r0,fun hne=>?_,fun hz=>⟨fun k hk1 hk2=>?_,fun d d1 d2 d3 d4 d5 d6 d7=>?_⟩⟩
    ·obtain ⟨g1,g2⟩:=hcw1 hne
     rw [g2] at r1
     rw [g1]
     refine ⟨rfl,c2,⟨_,r1,?_,rfl,set_gs hy rfl,sv_set s i { y with ended:=true }⟩,frA,hcA⟩
     obtain ⟨hi,rfl⟩:=List.getElem?_eq_some_iff.1 hy
     exact f.ends hi hE
    ·have hk0:c k=0:=x.out k hk1
     have e1:=fr.block k hk2 (by rw [hk0];decide)
     have e2:c1 k=c k:=hc1 k hk2
     refine (r3.block k (Nat.lt_of_lt_of_le hk2 fr.size) ?_).trans e1
     show ¬ (c1 k=4∨c1 k=7+3 * i)
     omega
    ·obtain ⟨s1,s3,t1,t2,t3,t4,t5,t6,t7,t8,t9,t10,t11,t12,t13⟩:=done_sv (y:=y) f.os hid1 (changesS s.D y.tx) hz (checkT s.tk y.snap y.m.mk' (changesS s.D y.tx)).1
     rw [t1] at r1
     have hl1:0≤s1.last∧s1.last≤18446744073709551615:=by
      rw [t12]
      unfold topS at *
      split
      ·exact ⟨hlast,htop⟩
      ·next hne =>
       have:=t13 hne
       omega
     have hmk:=(x.mrk hy hE)
     have hmno:∀k,BlkM15 y.m k→k<W.heap.size∧c k=9+3 * i:=fun k hk=>⟨(hmk.1.blk k hk).2,hmk.2 k hk⟩
     have frP:Fr (fun k=>c k=2∨c k=5∨c k=4∨c k=7+3 * i) W w':=by
      refine Fr.then (frW.mono fun k hk=>by omega) r3 fun k hk=>?_
      by_cases e:k<W.heap.size
      ·refine Or.inl ?_
       have:=hc1W k e
       omega
      ·exact Or.inr (by omega)
     have hm':RMk n0 w' y.m:=hmk.1.fr frP fun k hk e=>by
      have:=(hmno k hk).2
      omega
     have hkeep:∀k,W.heap.size≤k→k<w.heap.size→w'.heap[k]? = w.heap[k]?:=fun k hk1 hk2=>by
      have hk0:c k=0:=x.out k hk1
      have e1:=fr.block k hk2 (by rw [hk0];decide)
      have e2:c1 k=c k:=hc1 k hk2
      refine (r3.block k (Nat.lt_of_lt_of_le hk2 fr.size) ?_).trans e1
      show ¬ (c1 k=4∨c1 k=7+3 * i)
      omega
     have ho':KCx.Own W.heap.size w' d.csl d.cs:=own_same (show w.ownsRow W.heap.size KCx.T KCx.k d.csl d.cs.length (KCx.cells d.cs) from d6) fun k hk=>by
      have q:=World.ownsRow.lt (show w.ownsRow W.heap.size KCx.T KCx.k d.csl d.cs.length (KCx.cells d.cs) from d6) k hk
      exact hkeep k q.1 q.2
     have frK:Fr (fun k=>¬ (W.heap.size≤k∧k<w.heap.size)) w w':=⟨r3.os.trans fr.os,r3.tape.trans fr.tape,r3.output.trans fr.output,Nat.le_trans fr.size r3.size,fun k hk hn=>by
      have q:W.heap.size≤k∧k<w.heap.size:=Classical.not_not.1 hn
      exact hkeep k q.1 q.2⟩
     have he':∀z∈d.cs,COwn W.heap.size w' z:=fun z hz=>(d7 z hz).fr frK fun k hk hq=>hq ((d7 z hz).blk k hk)
     obtain ⟨mk1,mk2,mk3,mk4⟩:=f.mrk hy hE
     have hcl:d.cs.length≤nr:=by
      have q:=congrArg List.length d4
      rw [List.length_map] at q
      omega
     have hdin:DIn w' d:=by
      refine ⟨by rw [d3];exact hm'.inn,⟨Kind.own_is ho',fun z hz=>(he' z hz).inn⟩,?_,?_,d5⟩
      ·rw [d3]
       exact szd_few hn mk1 mk2 mk3 mk4 hcl (fun z hz=>⟨(d7 z hz).wcp,(d7 z hz).icp⟩) (hkf d.cs d4)
      ·rw [d1]
       have h1:=(f.okw hy).lo
       have h2:=(f.okw hy).hi
       unfold topS at htop
       exact ⟨h1,Int.le_trans h2 htop⟩
     have hlo:(closeQ s1.os y.id).length<40000000000000:=by
      rw [closeQ_len,t10,f.os,openS_len]
      show (s.xs.map Px.tx).length<_
      rw [List.length_map]
      omega
     have hst:=strack_any (s:={ s1 with xs:=s1.xs.set i { y with ended:=true },os:=closeQ s1.os y.id }) r1 hl1 hlo d hdin
     have hst2:Calls Tryz.prog 90 #[.pointer (some ⟨s.h,0,none⟩),.agg (encDx d).toArray] w' fun e w2=>TrPost n0 w' c2 (trR { s1 with xs:=s1.xs.set i { y with ended:=true },os:=closeQ s1.os y.id } ⟨d.snap,s1.last,d.out,d.m.mk',d.cs.map Cx.ch⟩) e w2:=by
      rw [←t11]
      exact hst
     refine hst2.mono fun e w2 u=>?_
     ·obtain ⟨u0,c3,u1,u2,u3⟩:=u
      refine ⟨u0,?_⟩
      have ht:trR { s1 with xs:=s1.xs.set i { y with ended:=true },os:=closeQ s1.os y.id } ⟨d.snap,s1.last,d.out,d.m.mk',d.cs.map Cx.ch⟩=s3:=by
       rw [d1,d2,d3,d4]
       exact t2
      have u1':PrgB n0 w2 s3 c3:=by
       rw [←ht]
       exact u1
      have hcw:=hcw2 hz
      rw [hcw]
      refine ⟨rfl,c3,⟨s3,u1',?_,t4,by rw [t5];exact set_gs hy rfl,t3⟩,?_,fun k hk=>(u2 k (Nat.lt_of_lt_of_le hk frA.size)).trans (hcA k hk)⟩
      ·refine f.fin hy hE t5 t6 t7 (by rw [t8,hchl];exact Nat.le_refl _) ?_
       rw [t3]
       have q:=okS_commit f.ok (i:=i) (f.okw hy)
       rw [hcw] at q
       exact q
      ·refine frA.then u3 fun k hk=>?_
       by_cases e:k<W.heap.size
       ·refine Or.inl ?_
        have:=hcA k e
        have hk:c2 k=3:=hk
        omega
       ·exact Or.inr (by omega)
   have HSN:Hid (0≤y.snap∧y.snap≤18446744073709551615):=by
    have h1:=(f.okw hy).lo
    have h2:=(f.okw hy).hi
    unfold topS at htop
    exact ⟨h1,Int.le_trans h2 htop⟩
   unfold CkPost at HCK
   rw [hla,if_neg (by decide),hck] at HCK
   have HOUT:Hid (∀k,W.heap.size≤k→c k=0):=x.out
   generalize hWR:wrR s (changesS s.D y.tx)=WR at *
   generalize commitS s.sv i y.tx=R at *
   generalize checkT s.tk y.snap y.m.mk' (changesS s.D y.tx)=CK at *
   generalize changesS s.D y.tx=CH at *
   generalize y.g=g at *
   generalize s.h=h at *
   clear x f hn hy hE hid1 hid2 hfid hcg hlen hlod hchl hno hla hck hcw1 hcw2 hlast htop hcn hkf HEND hWR
   go_enter Tryz.func28,Tryz.ntmps28
   go_wp2_with fail
   refine HE.out.mono ?_
   rintro e0 W ⟨rfl,rfl⟩
   go_wp2_with fail
   refine HCK.out.mono ?_
   rintro e1 w1 ⟨d,rfl,hd,hb1⟩
   obtain ⟨X,hX⟩:∃X,w1.heap.size=X:=⟨_,rfl⟩
   obtain ⟨V0,hV0⟩:∃V0,w1.alloc (.cells #[.int .u64 0,.int .u64 0,.bool false,.slice none 0 0,.slice none 0 0,.slice none 0 0] 177)=V0:=⟨_,rfl⟩
   have hv0:V0.heap[X]? = some (.cells #[.int .u64 0,.int .u64 0,.bool false,.slice none 0 0,.slice none 0 0,.slice none 0 0] 177 (0,0)):=by rw [←hV0,←hX];exact heap_alloc_new w1 _
   have hal:Below w1.heap.size w1 V0:=by rw [←hV0];exact (Below.refl _ _).alloc (Nat.le_refl _) _
   have HD0:=hid hd
   obtain ⟨dsn,dst,dou,⟨mkp,mkc,mks,mrp,mrc,mrs⟩,cp,cc,cs⟩:=d
   simp only [encDx,Mx.ksl,Mx.rsl,Dx.csl] at *
   obtain ⟨V,hV⟩:∃V,((((((V0.setCell ⟨X,0,none⟩ (.int .u64 dsn)).setCell ⟨X,1,none⟩ (.int .u64 dst)).setCell ⟨X,2,none⟩ (.bool dou)).setCell ⟨X,3,none⟩ (.slice mkp mks.length mkc)).setCell ⟨X,4,none⟩ (.slice mrp mrs.length mrc)).setCell ⟨X,5,none⟩ (.slice cp cs.length cc))=V:=⟨_,rfl⟩
   have hvx:V.heap[X]? = some (.cells #[.int .u64 dsn,.int .u64 dst,.bool dou,.slice mkp mks.length mkc,.slice mrp mrs.length mrc,.slice cp cs.length cc] 177 (0,0)):=by
    rw [←hV]
    exact heap_setCell_same _ X 5 _ _ _ (heap_setCell_same _ X 4 _ _ _ (heap_setCell_same _ X 3 _ _ _ (heap_setCell_same _ X 2 _ _ _ (heap_setCell_same _ X 1 _ _ _ (heap_setCell_same _ X 0 _ _ _ hv0)))))
   have fv:Fr (fun b=>b=X) V0 V:=by
    rw [←hV]
    exact (((((fr_set5 V0 X 0 _).then (fr_set5 _ X 1 _) fun k hk=>Or.inl hk).then (fr_set5 _ X 2 _) fun k hk=>Or.inl hk).then (fr_set5 _ X 3 _) fun k hk=>Or.inl hk).then (fr_set5 _ X 4 _) fun k hk=>Or.inl hk).then (fr_set5 _ X 5 _) fun k hk=>Or.inl hk
   have hb1V:Below w1.heap.size w1 V:=hal.trans (fv.below hal.size fun k hk=>by omega)
   have HBV:=hid (bel_then hb1 hb1.size hb1V)
   have HB1V:=hid hb1V
   have HVX:=hid hvx
   have HXW:Hid (W.heap.size≤X):=by show _≤_;rw [←hX];exact hb1.size
   have y0:V0.cell? ⟨X,0,none⟩=some (.int .u64 0):=cz hv0
   have z0:=Lib.frozen_of_heap hv0 0
   have y1:V0.cell? ⟨X,1,none⟩=some (.int .u64 0):=cz hv0
   have z1:=Lib.frozen_of_heap hv0 1
   have y2:V0.cell? ⟨X,2,none⟩=some (.bool false):=cz hv0
   have z2:=Lib.frozen_of_heap hv0 2
   have y3:V0.cell? ⟨X,3,none⟩=some (.slice none 0 0):=cz hv0
   have z3:=Lib.frozen_of_heap hv0 3
   have y4:V0.cell? ⟨X,4,none⟩=some (.slice none 0 0):=cz hv0
   have z4:=Lib.frozen_of_heap hv0 4
   have y5:V0.cell? ⟨X,5,none⟩=some (.slice none 0 0):=cz hv0
   have z5:=Lib.frozen_of_heap hv0 5
   clear hv0 hal fv hb1V hb1 hd HCK HE
   obtain ⟨e1,e0,e2,e3,e4,e5,e6⟩:=HD0.out (by first|exact rfl|exact True.intro)
   have HDD:Hid (dsn=y.snap∧dst=0∧dou=CK.1∧(⟨mkp,mkc,mks,mrp,mrc,mrs⟩:Mx)=y.m∧cs.map Cx.ch=CH):=⟨e1,e0,e2,e3,e4⟩
   have ho:=Kind.own_on e5 HB1V.out
   have hz:∀z∈cs,COwn W.heap.size V z:=fun z hz=>(e6 z hz).on HB1V.out
   have hbd:Below V.heap.size V (V.drewN 1):=bel_drewN (Below.refl _ V) 1
   have hbW:Below W.heap.size W (V.drewN 1):=bel_drewN HBV.out 1
   have HOD:Hid (KCx.Own W.heap.size (V.drewN 1) (.slice cp cs.length cc) cs∧∀z∈cs,COwn W.heap.size (V.drewN 1) z):=⟨Kind.own_on ho hbd,fun z q=>(hz z q).on hbd⟩
   have HW2:=hid (HWR.out (V.drewN 1) cp cc cs hbW HOD.out.1 HOD.out.2 e4)
   have cE:=HCE.out V HBV.out
   have x5:V.cell? ⟨X,5,none⟩=some (.slice cp cs.length cc):=cz hvx
   have HXV:Hid (X<V.heap.size):=(Array.getElem?_eq_some_iff.1 hvx).1
   have HBW:=hid hbW
   clear e1 e0 e2 e3 e4 e5 e6 ho hz hbd hbW HWR HCE HD0 hvx
   go_upto_region 6 with fail
   try rw [hX]
   try rw [hV0]
   try rw [hV]
   clear y0 y1 y2 y3 y4 y5 z0 z1 z2 z3 z4 z5 hV hV0 hX
   refine wp_region_held_drew (S:=fun w'=>w'.cell? ⟨g,2,none⟩=some (.pointer (some ⟨h,0,none⟩))∧w'.cell? ⟨X,5,none⟩=some (.slice cp cs.length cc)) (by kernel_rfl) ⟨cE,x5⟩ (fun hHeld=>?_)
   refine tkv 0 (.pointer (some ⟨g,0,none⟩)) hHeld ?_
   simp only [Act.put,sz]
   refine tkv 1 (.pointer (some ⟨g,0,none⟩)) hHeld ?_
   simp only [Act.put,sz]
   refine tkv 2 (.pointer (some ⟨g,2,none⟩)) hHeld ?_
   simp only [Act.put,sz]
   refine tkv 3 (.pointer (some ⟨h,0,none⟩)) hHeld ?_
   simp only [Act.put,sz]
   refine tkv 4 (.pointer (some ⟨X,5,none⟩)) hHeld ?_
   simp only [Act.put,sz]
   refine tkv 5 (.slice cp cs.length cc) hHeld ?_
   simp only [Act.put,sz]
   clear hHeld cE x5
   refine wpAnyH_ready (rs:=[6]) (by kernel_rfl) (by simp) ?_
   refine AllReadyH.cons (at_drop0 rfl) (fun K hK=>?_) AllReadyH.nil
   rw [if_pos (by rfl)]
   go_simp
   refine HW2.out.mono ?_
   rintro e2 w2 ⟨rfl,c1,q1,q2,q3⟩
   obtain ⟨p1,p2⟩:=HEN2.out c1 (V.drewN 1) w2 HBW.out q1 q2 q3
   have hx2:w2.heap[X]? = some (.cells #[.int .u64 dsn,.int .u64 dst,.bool dou,.slice mkp mks.length mkc,.slice mrp mrs.length mrc,.slice cp cs.length cc] 177 (0,0)):=(q3.block X (by show X<V.heap.size;exact HXV.out) (by show ¬ (c X=2∨c X=5);have:=HOUT.out X HXW.out;omega)).trans HVX.out
   have x5:w2.cell? ⟨X,5,none⟩=some (.slice cp cs.length cc):=cz hx2
   have HP2:=hid p2
   obtain ⟨⟨ws,we⟩,s1⟩:=WR
   simp only at *
   clear q1 q2 q3 p2 HEN2 HW2 hx2
   go_wp2_with fail
   refine hK.out _ _ (⟨p1,x5⟩) (fun hHeld=>?_)
   clear hK K
   try simp only [Act.put,sz]
   refine tkv 7 (.tuple #[.int .u64 ws,.int .i64 we]) hHeld ?_
   simp only [Act.put,sz]
   refine tkv 8 (.int .u64 ws) hHeld ?_
   simp only [Act.put,sz]
   refine tkv 10 (.int .u64 ws) hHeld ?_
   simp only [Act.put,sz]
   refine tkv 9 (.int .i64 we) hHeld ?_
   simp only [Act.put,sz]
   refine tkv 11 (.int .i64 we) hHeld ?_
   simp only [Act.put,sz]
   refine wpAnyH_done (by kernel_rfl) ?_ _
   clear x5
   go_wp2_with fail
   refine HP2.out.mono ?_
   rintro e3 w3 ⟨rfl,hA,hB⟩
   by_cases hwe:we=0
   ·subst hwe
    obtain ⟨b1,b2⟩:=hB rfl
    have hx3:w3.heap[X]? = some (.cells #[.int .u64 dsn,.int .u64 dst,.bool dou,.slice mkp mks.length mkc,.slice mrp mrs.length mrc,.slice cp cs.length cc] 177 (0,0)):=(b1 X HXW.out (by show X<V.heap.size;exact HXV.out)).trans HVX.out
    have HT:=hid (b2 ⟨dsn,dst,dou,⟨mkp,mkc,mks,mrp,mrc,mrs⟩,cp,cc,cs⟩ HDD.out.1 HDD.out.2.2.1 HDD.out.2.2.2.1 HDD.out.2.2.2.2 (by show 0≤dst∧dst≤_;rw [HDD.out.2.1];decide) HOD.out.1 HOD.out.2)
    simp only [encDx,Mx.ksl,Mx.rsl,Dx.csl] at HT
    have d0:w3.cell? ⟨X,0,none⟩=some (.int .u64 dsn):=cz hx3
    have d1:w3.cell? ⟨X,1,none⟩=some (.int .u64 dst):=cz hx3
    have d2:w3.cell? ⟨X,2,none⟩=some (.bool dou):=cz hx3
    have d3:w3.cell? ⟨X,3,none⟩=some (.slice mkp mks.length mkc):=cz hx3
    have d4:w3.cell? ⟨X,4,none⟩=some (.slice mrp mrs.length mrc):=cz hx3
    have d5:w3.cell? ⟨X,5,none⟩=some (.slice cp cs.length cc):=cz hx3
    clear hA hB b1 b2 hx3 HP2 p1 HDD HOD HVX
    go_wp2_with fail
    refine HT.out.mono ?_
    rintro e4 w4 ⟨rfl,hq⟩
    have HQ:=hid hq
    clear hq HT
    go_wp2_with fail
    go_ret2
    exact HQ.out
   ·have hwb:(we==0)=false:=by simpa using hwe
    have HQ:=hid (hA hwe)
    clear hA hB HP2 p1
    go_wp2_with fail
    go_ret2
    exact HQ.out
end
end Go.Proofs.YtmhlcnmfbolgdaaGreat
