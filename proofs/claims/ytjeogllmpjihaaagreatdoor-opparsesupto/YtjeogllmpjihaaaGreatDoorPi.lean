/-
  Texts of this claim, one behind the other: Oyr Ozk Opq Oze Opz Opu Ora Orb Orc.
-/
import Derived.Test.YtjeogllmpjihaaaGreatDoorPh
namespace Go.Proofs.YtjeogllmpjihaaaGreatDoor
section
open Go.RowKit Go.Lib
set_option maxHeartbeats 8000000 in
set_option maxRecDepth 100000 in
theorem rrest16_any (y:Ex) (hy:∃k tp ka kb fi st nm,y=bareX k tp ka kb fi st nm) (p:Option Addr) (cap:Nat) (ws:List ByteArray) (w:World) (hr:RangeE y) (ht:TxtAt w p ws) (hl:ws.length≤1000000000) (hcap:ws.length≤cap) (hs:∀x∈ws,x.size≤1000000000000) :
  Calls Tryz.prog 43 #[aggEx y,.slice p ws.length cap] w fun e w'=>EnR w (restR y.en (bytesL ws)) e w':=by
 have ho:OwnQ w.heap.size y w:=by
  obtain ⟨k,tp,ka,kb,fi,st,nm,rfl⟩:=hy
  exact ⟨(own_noneX _ _).1,⟨Nat.zero_le _,fun x hx=>by cases hx⟩,Kind.own_nil _ _ _,(show FitE [] from fitE_may (by decide)),Kind.own_nil _ _ _,(show FitM [] from fitM_may (by decide)),hr⟩
 have R0:=hid (rs_start ho)
 obtain ⟨W0,hW0⟩:∃W0,((w.alloc (.cells #[.int .i64 y.kind,.string y.temp,.string y.ka,.string y.kb,.int .i64 y.iff,.slice y.vp y.vo.length y.vc,.slice y.ep y.eo.length y.ec,.slice y.pp y.po.length y.pc,.int .u64 y.stamp,.int .i64 y.num] 42)).alloc (.cells #[.int .i64 0,.string ⟨#[]⟩,.string ⟨#[]⟩,.string ⟨#[]⟩,.int .i64 0,.slice none 0 0,.slice none 0 0,.slice none 0 0,.int .u64 0,.int .i64 0] 42))=W0:=⟨_,rfl⟩
 rw [hW0] at R0
 have HT:=hid ht
 have HPW:Hid (∀V n,n≤ws.length→Below w.heap.size w V→Calls Tryz.prog 79 #[.slice p n cap] V fun e w'=>PwPost V (bytesL (ws.take n)) e w'):=hid fun V n hn hV=>by
  have h:=rpw_any p cap (ws.take n) V (txt_take (txt_on ht hV) n) (by rw [List.length_take];omega) fun x hx=>hs x (List.mem_of_mem_take hx)
  rw [List.length_take,Nat.min_eq_left hn] at h
  exact h
 have HPD:Hid (∀V n q c,TxtAt V q (ws.drop n)→Calls Tryz.prog 80 #[.slice q (ws.length-n:Nat) c] V fun e w'=>TWPost V (termsW (bytesL (ws.drop n))) e w'):=hid fun V n q c hq=>by
  have h:=rpwM_any q c (ws.drop n) V hq (by rw [List.length_drop];omega) fun x hx=>hs x (List.mem_of_mem_drop hx)
  rw [List.length_drop] at h
  exact h
 have HPT:Hid (∀V,Below w.heap.size w V→Calls Tryz.prog 80 #[.slice p ws.length cap] V fun e w'=>TWPost V (termsW (bytesL ws)) e w'):=hid fun V hV=>rpwM_any p cap ws V (txt_on ht hV) (by omega) hs
 have HPE:Hid (∀V,Below w.heap.size w V→Calls Tryz.prog 81 #[.slice p ws.length cap] V fun e w'=>EWPost V (editsW (bytesL ws)) e w'):=hid fun V hV=>rpwE_any p cap ws V (txt_on ht hV) (by omega) hs
 have HPV:Hid (∀V,Below w.heap.size w V→Calls Tryz.prog 79 #[.slice p ws.length cap] V fun e w'=>PwPost V (bytesL ws) e w'):=hid fun V hV=>rpw_any p cap ws V (txt_on ht hV) (by omega) hs
 have HR1:Hid (y.kind=1∨y.kind=3→restR y.en (bytesL ws)=(valR (bytesL ws)).map fun v=>{ y.en with val:=v }):=hid fun h=>by unfold restR;rw [if_pos (show y.en.kind=1∨y.en.kind=3 from h)]
 have HR4:Hid (y.kind=4→restR y.en (bytesL ws)=(edsR (bytesL ws)).map fun v=>{ y.en with eds:=v }):=hid fun h=>by
  have h':y.en.kind=4:=h
  unfold restR;rw [if_neg (by omega),if_neg (by omega),if_pos h']
 have HR5:Hid (y.kind=5→restR y.en (bytesL ws)=if bytesL ws=[] then some y.en else none):=hid fun h=>by
  have h':y.en.kind=5:=h
  unfold restR;rw [if_neg (by omega),if_neg (by omega),if_neg (by omega),if_pos h']
 have HRX:Hid (¬ y.kind=1→¬ y.kind=2→¬ y.kind=3→¬ y.kind=4→¬ y.kind=5→restR y.en (bytesL ws)=(prdR (bytesL ws)).map fun v=>{ y.en with pred:=v }):=hid fun h1 h2 h3 h4 h5=>by
  have e1:¬ y.en.kind=1:=h1
  have e2:¬ y.en.kind=2:=h2
  have e3:¬ y.en.kind=3:=h3
  have e4:¬ y.en.kind=4:=h4
  have e5:¬ y.en.kind=5:=h5
  unfold restR;rw [if_neg (by omega),if_neg e2,if_neg e4,if_neg e5]
 have HR2:Hid (y.kind=2→restR y.en (bytesL ws)=if [63]∈bytesL ws then (valR ((bytesL ws).takeWhile fun x=>decide (x≠[63]))).bind fun v=>(prdR (((bytesL ws).dropWhile fun x=>decide (x≠[63])).drop 1)).map fun p=>{ y.en with val:=v,pred:=p } else none):=hid fun h=>by
  have h':y.en.kind=2:=h
  unfold restR;rw [if_neg (by omega),if_pos h']
 obtain ⟨kd,hkd⟩:∃k,y.kind=k:=⟨_,rfl⟩
 have HKD:=hid hkd
 obtain ⟨c0,-⟩:=R0.out.cells
 unfold aggEx
 simp only [encEx,Ex.vs,Ex.es,Ex.ps]
 clear ho hy hr ht hs
 rw [hkd] at HR1 HR2 HR4 HR5 HRX
 rw [hkd] at c0 hW0 ⊢
 clear hkd
 go_enter Tryz.func43,Tryz.ntmps43
 go_upto_block 0 with fail
 try rw [hW0]
 clear hW0 c0
 go_cut [6,7] from 8 (fun v6 _ wx=>∃(c:Int) (z:Ex),v6=.int .i64 c∧Hid (RsSt w w.heap.size (w.heap.size+1) wx z)∧Hid (restR y.en (bytesL ws)=if c=0 then some z.en else none))
 case first =>
  by_cases k13:kd=1∨kd=3
  ·as_aux_lemma =>
   have HRR:=hid (HR1.out k13)
   go_upto_if 16 with fail
   go_cut [16] from 8 (fun v16 wx=>v16=.bool true∧W0=wx)
   case first =>
    rcases k13 with h|h
    ·have b1:(kd==1)=true:=by rw [beq_iff_eq];exact h
     clear h
     rw [b1]
     go_wp2_with fail
     go_meet
     case rel=>exact ⟨rfl,rfl⟩
    ·have b1:(kd==1)=false:=by rw [beq_eq_false_iff_ne];omega
     have b3:(kd==3)=true:=by rw [beq_iff_eq];exact h
     clear h
     rw [b1]
     go_wp2_with fail
     go_meet
     case rel=>exact ⟨by first|rfl|rw [b3],rfl⟩
   case rest =>
   obtain ⟨rfl,rfl⟩:=hcut
   clear k13
   go_wp2_with fail
   refine (HPV.out W0 R0.out.bel).mono ?_
   intro e w1 hp
   obtain ⟨up,uc,fo,c,rfl,hown,hfit,hval,hb1⟩:=pw_val hp
   have R1:=hid (R0.out.on hb1)
   have f5:=R1.out.open 5
   obtain ⟨c0,c1,c2,c3,c4,c5,c6,c7,c8,c9⟩:=R1.out.cells
   obtain ⟨z,hz⟩:∃zq:Ex,zq={ y with vp:=up,vc:=uc,vo:=fo }:=⟨_,rfl⟩
   obtain ⟨W2,hW2⟩:∃W',w1.setCell ⟨w.heap.size,5,none⟩ (.slice up fo.length uc)=W':=⟨_,rfl⟩
   have R2:Hid (RsSt w w.heap.size (w.heap.size+1) W2 z):=hid (by
    rw [←hW2]
    have hs:=R0.out.size
    have ho:OwnQ w.heap.size z w1:=by
     have q:=R1.out.own
     rw [hz]
     exact ⟨⟨own_weak hown.1 (by omega),fun x hx=>own_weak (hown.2 x hx) (by omega)⟩,hfit,q.eds,q.efit,q.prd,q.pfit,⟨q.rng.temp,q.rng.ka,q.rng.kb,q.rng.k0,q.rng.k1,q.rng.i0,q.rng.i1,q.rng.t0,q.rng.t1,q.rng.n0,q.rng.n1⟩⟩
    exact R1.out.turn 5 _ ho (by rw [hz];rfl))
   have HZ:=hid hz
   have HVL:=hid hval
   clear hown hfit hval hb1 hp hz
   go_wp2_with fail
   try rw [hW2]
   go_meet
   case rel=>exact ⟨c,z,rfl,R2,hid (by
    rw [HRR.out,HVL.out,HZ.out]
    split<;>rfl)⟩
  have b1:(kd==1)=false:=by rw [beq_eq_false_iff_ne];omega
  have b3:(kd==3)=false:=by rw [beq_eq_false_iff_ne];omega
  by_cases k2:kd=2
  ·as_aux_lemma =>
   have HRR:=hid (HR2.out k2)
   have b2:(kd==2)=true:=by rw [beq_iff_eq];exact k2
   clear k2 k13
   go_wp2_with fail
   go_loopg [7] ws.length (fun g v7 wx=>∃(i:Nat),v7=.int .i64 i∧i≤ws.length∧ws.length-i≤g∧Hid (∀x∈(bytesL ws).take i,x≠[63])∧Hid (RsSt w w.heap.size (w.heap.size+1) wx y))
   case atStart=>exact ⟨0,rfl,by omega,by omega,hid (by simp),R0⟩
   case round =>
    clear R0
    obtain ⟨i,rfl,hi,hig,HNO,R0⟩:=hrel
    by_cases hlt:i<ws.length
    ·have hltz:(i:Int)<(ws.length:Int):=by omega
     have hiz:(0:Int)≤(i:Int):=by omega
     obtain ⟨b,off,hp,hcc⟩:∃b off,p=some ⟨b,off,none⟩∧∀i,(h:i<ws.length)→w.cell? ⟨b,off+i,none⟩=some (.string ws[i]):=by
      rcases HT.out with h|⟨b,off,h1,h2⟩
      ·rw [h] at hlt;simp at hlt
      ·exact ⟨b,off,h1,h2⟩
     have cx:=kept R0.out.bel (hcc i hlt)
     obtain ⟨x,hx⟩:∃x,ws[i]=x:=⟨_,rfl⟩
     rw [hx] at cx
     have HX:Hid ((bytesL ws)[i]? = some x.data.toList):=hid (by unfold bytesL;rw [List.getElem?_map,List.getElem?_eq_getElem hlt,hx];rfl)
     subst hp
     clear hcc hx
     by_cases hq:x.data.toList=[63]
     ·have hq2:(x.toList==[63])=true:=by rw [toList_data,hq];rfl
      have HX2:Hid ((bytesL ws)[i]? = some [63]):=hid (by rw [HX.out,hq])
      have HRW:Hid (restR y.en (bytesL ws)=(valR (bytesL (ws.take i))).bind fun v=>(prdR (bytesL (ws.drop (i+1)))).map fun p=>{ y.en with val:=v,pred:=p }):=hid (by
       obtain ⟨e1,e2,e3⟩:=cut_while i (bytesL ws) HNO.out HX2.out
       rw [HRR.out,if_pos e3,e1,e2]
       simp only [bytesL,List.map_take,List.map_drop])
      have hne:((i:Int)==(ws.length:Int))=false:=by rw [beq_eq_false_iff_ne];omega
      have hcz:(i:Int)+1≤(ws.length:Int):=by omega
      have hcz2:(ws.length:Int)≤(cap:Int):=by omega
      clear hq HRR HX HX2 HNO
      go_wp2_with fail
      refine (HPW.out _ i (by omega) R0.out.bel).mono ?_
      intro e w1 hp
      obtain ⟨up,uc,fo,c,rfl,hown,hfit,hval,hb1⟩:=pw_val hp
      have R1:=hid (R0.out.on hb1)
      have f5:=R1.out.open 5
      obtain ⟨c0,c1,c2,c3,c4,c5,c6,c7,c8,c9⟩:=R1.out.cells
      obtain ⟨z,hz⟩:∃zq:Ex,zq={ y with vp:=up,vc:=uc,vo:=fo }:=⟨_,rfl⟩
      obtain ⟨W2,hW2⟩:∃W',w1.setCell ⟨w.heap.size,5,none⟩ (.slice up fo.length uc)=W':=⟨_,rfl⟩
      have R2:Hid (RsSt w w.heap.size (w.heap.size+1) W2 z):=hid (by
       rw [←hW2]
       have hs:=R0.out.size
       have ho:OwnQ w.heap.size z w1:=by
        have q:=R1.out.own
        rw [hz]
        exact ⟨⟨own_weak hown.1 (by omega),fun x hx=>own_weak (hown.2 x hx) (by omega)⟩,hfit,q.eds,q.efit,q.prd,q.pfit,⟨q.rng.temp,q.rng.ka,q.rng.kb,q.rng.k0,q.rng.k1,q.rng.i0,q.rng.i1,q.rng.t0,q.rng.t1,q.rng.n0,q.rng.n1⟩⟩
       exact R1.out.turn 5 _ ho (by rw [hz];rfl))
      have HZ:=hid hz
      have HVL:=hid hval
      clear hown hfit hval hb1 hp hz
      have HZ1:=HZ
      have HVL1:=HVL
      clear HZ HVL
      by_cases hc:c=0
      ·subst hc
       have HV1:=hid (HVL1.out.trans (if_pos rfl))
       clear HVL1
       by_cases hcp:cap=i+1
       ·have hdn:ws.drop (i+1)=[]:=List.drop_eq_nil_of_le (by omega)
        have HDN:=hid hdn
        clear hdn
        go_wp2_with fail
        try rw [hW2]
        clear hW2 f5 c0 c1 c2 c3 c4 c5 c6 c7 c8 c9
        refine (HPD.out _ (i+1) _ _ (Or.inl HDN.out)).mono ?_
        intro e w1 hp
        obtain ⟨vp,vc,po,cq,rfl,hown,hfit,hval,hb1⟩:=tw_prd hp
        have R6:=hid (R2.out.on hb1)
        have f5:=R6.out.open 7
        obtain ⟨c0,c1,c2,c3,c4,c5,c6,c7,c8,c9⟩:=R6.out.cells
        obtain ⟨z2,hz⟩:∃zq:Ex,zq={ z with pp:=vp,pc:=vc,po:=po }:=⟨_,rfl⟩
        obtain ⟨W5,hW5⟩:∃W',w1.setCell ⟨w.heap.size,7,none⟩ (.slice vp po.length vc)=W':=⟨_,rfl⟩
        have R5:Hid (RsSt w w.heap.size (w.heap.size+1) W5 z2):=hid (by
         rw [←hW5]
         have hs:=R2.out.size
         have ho:OwnQ w.heap.size z2 w1:=by
          have q:=R6.out.own
          rw [hz]
          exact ⟨q.val,q.fit,q.eds,q.efit,Kind.own_weak hown (by omega),hfit,⟨q.rng.temp,q.rng.ka,q.rng.kb,q.rng.k0,q.rng.k1,q.rng.i0,q.rng.i1,q.rng.t0,q.rng.t1,q.rng.n0,q.rng.n1⟩⟩
         exact R6.out.turn 7 _ ho (by rw [hz];rfl))
        have HZ:=hid hz
        have HVL:=hid hval
        clear hown hfit hval hb1 hp hz
        go_wp2_with fail
        try rw [hW5]
        rw [←hcp]
        go_meet
        case rel=>exact ⟨cq,z2,rfl,R5,hid (by
         rw [HRW.out,HV1.out,Option.bind_some,HVL.out,HZ.out,HZ1.out]
         split<;>rfl)⟩
       ·go_wp2_with fail
        try rw [hW2]
        clear hW2 f5 c0 c1 c2 c3 c4 c5 c6 c7 c8 c9
        refine (HPD.out _ (i+1) _ _ (txt_drop (txt_on HT.out R2.out.bel) rfl (i+1))).mono ?_
        intro e w1 hp
        obtain ⟨vp,vc,po,cq,rfl,hown,hfit,hval,hb1⟩:=tw_prd hp
        have R6:=hid (R2.out.on hb1)
        have f5:=R6.out.open 7
        obtain ⟨c0,c1,c2,c3,c4,c5,c6,c7,c8,c9⟩:=R6.out.cells
        obtain ⟨z2,hz⟩:∃zq:Ex,zq={ z with pp:=vp,pc:=vc,po:=po }:=⟨_,rfl⟩
        obtain ⟨W5,hW5⟩:∃W',w1.setCell ⟨w.heap.size,7,none⟩ (.slice vp po.length vc)=W':=⟨_,rfl⟩
        have R5:Hid (RsSt w w.heap.size (w.heap.size+1) W5 z2):=hid (by
         rw [←hW5]
         have hs:=R2.out.size
         have ho:OwnQ w.heap.size z2 w1:=by
          have q:=R6.out.own
          rw [hz]
          exact ⟨q.val,q.fit,q.eds,q.efit,Kind.own_weak hown (by omega),hfit,⟨q.rng.temp,q.rng.ka,q.rng.kb,q.rng.k0,q.rng.k1,q.rng.i0,q.rng.i1,q.rng.t0,q.rng.t1,q.rng.n0,q.rng.n1⟩⟩
         exact R6.out.turn 7 _ ho (by rw [hz];rfl))
        have HZ:=hid hz
        have HVL:=hid hval
        clear hown hfit hval hb1 hp hz
        go_wp2_with fail
        try rw [hW5]
        go_meet
        case rel=>exact ⟨cq,z2,rfl,R5,hid (by
         rw [HRW.out,HV1.out,Option.bind_some,HVL.out,HZ.out,HZ1.out]
         split<;>rfl)⟩
      ·have bc:(c==0)=false:=by rw [beq_eq_false_iff_ne];exact hc
       have HVN:=hid (HVL1.out.trans (if_neg hc))
       have HCN:=hid hc
       clear hc
       go_wp2_with fail
       try rw [hW2]
       go_meet
       case rel=>exact ⟨c,z,rfl,R2,hid (by rw [HRW.out,HVN.out,if_neg HCN.out];rfl)⟩
     ·have hq2:(x.toList==[63])=false:=by rw [toList_data];exact beq_eq_false_iff_ne.2 hq
      have HNO2:Hid (∀z∈(bytesL ws).take (i+1),z≠[63]):=hid fun z hz=>by
       rw [List.take_add_one,HX.out] at hz
       rcases List.mem_append.1 hz with h|h
       ·exact HNO.out z h
       ·have:z=x.data.toList:=by simpa using h
        rw [this];exact hq
      clear hq
      go_wp2_with fail
      go_roundg (ws.length-(i+1))
      case measure=>omega
      exact ⟨i+1,by go_num,by omega,by omega,HNO2,R0⟩
    ·obtain rfl:i=ws.length:=by omega
     have hltz:¬ (ws.length:Int)<(ws.length:Int):=by omega
     have HNM:Hid (restR y.en (bytesL ws)=none):=hid (by
      rw [HRR.out,if_neg]
      intro q
      refine HNO.out [63] ?_ rfl
      rw [List.take_of_length_le (by unfold bytesL;rw [List.length_map];exact Nat.le_refl _)]
      exact q)
     go_upto_region 12 with fail
     have HRG:=hid R0.out.range
     have HTH:=hid R0.out.there
     obtain ⟨W4,hW4⟩:∃W4,wr.setCells (w.heap.size+1) 0 [.int .i64 y.kind,.string y.temp,.string y.ka,.string y.kb,.int .i64 y.iff,.slice y.vp y.vo.length y.vc,.slice y.ep y.eo.length y.ec,.slice y.pp y.po.length y.pc,.int .u64 y.stamp,.int .i64 y.num]=W4:=⟨_,rfl⟩
     obtain ⟨⟨g0,g1,g2,g3,g4,g5,g6,g7,g8,g9⟩,hown4,hbel4⟩:=R0.out.fin W4 hW4
     have HW4:Hid (wr.setCells (w.heap.size+1) 0 (#[.int .i64 y.kind,.string y.temp,.string y.ka,.string y.kb,.int .i64 y.iff,.slice y.vp y.vo.length y.vc,.slice y.ep y.eo.length y.ec,.slice y.pp y.po.length y.pc,.int .u64 y.stamp,.int .i64 y.num]:Array Value).toList=W4):=hid hW4
     have HOW:=hid hown4
     have HBE:=hid hbel4
     clear hown4 hbel4 hW4
     go_wp2_with (first|(refine wpList_load_as rfl 42 _ rfl w.heap.size 0 rfl [.int .i64 y.kind,.string y.temp,.string y.ka,.string y.kb,.int .i64 y.iff,.slice y.vp y.vo.length y.vc,.slice y.ep y.eo.length y.ec,.slice y.pp y.po.length y.pc,.int .u64 y.stamp,.int .i64 y.num] _ HRG.out Tryz.underlying42 rfl Tryz.entSize (.agg #[.int .i64 y.kind,.string y.temp,.string y.ka,.string y.kb,.int .i64 y.iff,.slice y.vp y.vo.length y.vc,.slice y.ep y.eo.length y.ec,.slice y.pp y.po.length y.pc,.int .u64 y.stamp,.int .i64 y.num]) rfl ?_)|(refine wpList_store_as rfl 42 _ _ rfl (w.heap.size+1) 0 #[.int .i64 y.kind,.string y.temp,.string y.ka,.string y.kb,.int .i64 y.iff,.slice y.vp y.vo.length y.vc,.slice y.ep y.eo.length y.ec,.slice y.pp y.po.length y.pc,.int .u64 y.stamp,.int .i64 y.num] rfl rfl HTH.out Tryz.entSize (one_ex y) W4 HW4.out ?_))
     exact bodyPost_ret (v:=.tuple #[.agg #[.int .i64 y.kind,.string y.temp,.string y.ka,.string y.kb,.int .i64 y.iff,.slice y.vp y.vo.length y.vc,.slice y.ep y.eo.length y.ec,.slice y.pp y.po.length y.pc,.int .u64 y.stamp,.int .i64 y.num],.bool false]) (by simp [results,Tryz.results43,go_sem,g0,g1,g2,g3,g4,g5,g6,g7,g8,g9]) rfl ⟨⟨y,false,rfl,fun _=>HOW.out,by rw [HNM.out];rfl⟩,HBE.out⟩
  have b2:(kd==2)=false:=by rw [beq_eq_false_iff_ne];omega
  by_cases k4:kd=4
  ·as_aux_lemma =>
   have HRR:=hid (HR4.out k4)
   have b4:(kd==4)=true:=by rw [beq_iff_eq];exact k4
   clear k2 k4 k13
   go_wp2_with fail
   refine (HPE.out W0 R0.out.bel).mono ?_
   intro e w1 hp
   obtain ⟨up,uc,eo,c,rfl,hown,hfit,hval,hb1⟩:=ew_eds hp
   have R1:=hid (R0.out.on hb1)
   have f5:=R1.out.open 6
   obtain ⟨c0,c1,c2,c3,c4,c5,c6,c7,c8,c9⟩:=R1.out.cells
   obtain ⟨z,hz⟩:∃zq:Ex,zq={ y with ep:=up,ec:=uc,eo:=eo }:=⟨_,rfl⟩
   obtain ⟨W2,hW2⟩:∃W',w1.setCell ⟨w.heap.size,6,none⟩ (.slice up eo.length uc)=W':=⟨_,rfl⟩
   have R2:Hid (RsSt w w.heap.size (w.heap.size+1) W2 z):=hid (by
    rw [←hW2]
    have hs:=R0.out.size
    have ho:OwnQ w.heap.size z w1:=by
     have q:=R1.out.own
     rw [hz]
     exact ⟨q.val,q.fit,Kind.own_weak hown (by omega),hfit,q.prd,q.pfit,⟨q.rng.temp,q.rng.ka,q.rng.kb,q.rng.k0,q.rng.k1,q.rng.i0,q.rng.i1,q.rng.t0,q.rng.t1,q.rng.n0,q.rng.n1⟩⟩
    exact R1.out.turn 6 _ ho (by rw [hz];rfl))
   have HZ:=hid hz
   have HVL:=hid hval
   clear hown hfit hval hb1 hp hz
   go_wp2_with fail
   try rw [hW2]
   go_meet
   case rel=>exact ⟨c,z,rfl,R2,hid (by
    rw [HRR.out,HVL.out,HZ.out]
    split<;>rfl)⟩
  have b4:(kd==4)=false:=by rw [beq_eq_false_iff_ne];omega
  by_cases k5:kd=5
  ·as_aux_lemma =>
   have HRR:Hid (restR y.en (bytesL ws)=if decide (ws.length=0)=true then some y.en else none):=hid (by
    rw [HR5.out k5]
    by_cases hn:ws.length=0
    ·rw [if_pos (by rw [List.length_eq_zero_iff.1 hn];rfl),if_pos (decide_eq_true hn)]
    ·rw [if_neg (fun q=>hn (by have:=congrArg List.length q;simpa [bytesL] using this)),if_neg (by rw [decide_eq_false hn];decide)])
   have hn:((ws.length:Int)==0)=decide (ws.length=0):=by
    by_cases h:ws.length=0
    ·rw [decide_eq_true h,beq_iff_eq];omega
    ·rw [decide_eq_false h,beq_eq_false_iff_ne];omega
   have b5:(kd==5)=true:=by rw [beq_iff_eq];exact k5
   clear k2 k4 k5 k13
   go_upto_region 19 with fail
   have HRG:=hid R0.out.range
   have HTH:=hid R0.out.there
   obtain ⟨W4,hW4⟩:∃W4,W0.setCells (w.heap.size+1) 0 [.int .i64 y.kind,.string y.temp,.string y.ka,.string y.kb,.int .i64 y.iff,.slice y.vp y.vo.length y.vc,.slice y.ep y.eo.length y.ec,.slice y.pp y.po.length y.pc,.int .u64 y.stamp,.int .i64 y.num]=W4:=⟨_,rfl⟩
   obtain ⟨⟨g0,g1,g2,g3,g4,g5,g6,g7,g8,g9⟩,hown4,hbel4⟩:=R0.out.fin W4 hW4
   have HW4:Hid (W0.setCells (w.heap.size+1) 0 (#[.int .i64 y.kind,.string y.temp,.string y.ka,.string y.kb,.int .i64 y.iff,.slice y.vp y.vo.length y.vc,.slice y.ep y.eo.length y.ec,.slice y.pp y.po.length y.pc,.int .u64 y.stamp,.int .i64 y.num]:Array Value).toList=W4):=hid hW4
   have HOW:=hid hown4
   have HBE:=hid hbel4
   clear hown4 hbel4 hW4
   go_wp2_with (first|(refine wpList_load_as rfl 42 _ rfl w.heap.size 0 rfl [.int .i64 y.kind,.string y.temp,.string y.ka,.string y.kb,.int .i64 y.iff,.slice y.vp y.vo.length y.vc,.slice y.ep y.eo.length y.ec,.slice y.pp y.po.length y.pc,.int .u64 y.stamp,.int .i64 y.num] _ HRG.out Tryz.underlying42 rfl Tryz.entSize (.agg #[.int .i64 y.kind,.string y.temp,.string y.ka,.string y.kb,.int .i64 y.iff,.slice y.vp y.vo.length y.vc,.slice y.ep y.eo.length y.ec,.slice y.pp y.po.length y.pc,.int .u64 y.stamp,.int .i64 y.num]) rfl ?_)|(refine wpList_store_as rfl 42 _ _ rfl (w.heap.size+1) 0 #[.int .i64 y.kind,.string y.temp,.string y.ka,.string y.kb,.int .i64 y.iff,.slice y.vp y.vo.length y.vc,.slice y.ep y.eo.length y.ec,.slice y.pp y.po.length y.pc,.int .u64 y.stamp,.int .i64 y.num] rfl rfl HTH.out Tryz.entSize (one_ex y) W4 HW4.out ?_))
   exact bodyPost_ret (v:=.tuple #[.agg #[.int .i64 y.kind,.string y.temp,.string y.ka,.string y.kb,.int .i64 y.iff,.slice y.vp y.vo.length y.vc,.slice y.ep y.eo.length y.ec,.slice y.pp y.po.length y.pc,.int .u64 y.stamp,.int .i64 y.num],.bool (decide (ws.length=0))]) (by simp [results,Tryz.results43,go_sem,g0,g1,g2,g3,g4,g5,g6,g7,g8,g9]) rfl ⟨⟨y,(decide (ws.length=0)),rfl,fun _=>HOW.out,HRR.out⟩,HBE.out⟩
  as_aux_lemma =>
  have HRR:=hid (HRX.out (fun q=>k13 (Or.inl q)) k2 (fun q=>k13 (Or.inr q)) k4 k5)
  have b5:(kd==5)=false:=by rw [beq_eq_false_iff_ne];exact k5
  clear k2 k4 k5 k13
  go_wp2_with fail
  refine (HPT.out W0 R0.out.bel).mono ?_
  intro e w1 hp
  obtain ⟨up,uc,po,c,rfl,hown,hfit,hval,hb1⟩:=tw_prd hp
  have R1:=hid (R0.out.on hb1)
  have f5:=R1.out.open 7
  obtain ⟨c0,c1,c2,c3,c4,c5,c6,c7,c8,c9⟩:=R1.out.cells
  obtain ⟨z,hz⟩:∃zq:Ex,zq={ y with pp:=up,pc:=uc,po:=po }:=⟨_,rfl⟩
  obtain ⟨W2,hW2⟩:∃W',w1.setCell ⟨w.heap.size,7,none⟩ (.slice up po.length uc)=W':=⟨_,rfl⟩
  have R2:Hid (RsSt w w.heap.size (w.heap.size+1) W2 z):=hid (by
   rw [←hW2]
   have hs:=R0.out.size
   have ho:OwnQ w.heap.size z w1:=by
    have q:=R1.out.own
    rw [hz]
    exact ⟨q.val,q.fit,q.eds,q.efit,Kind.own_weak hown (by omega),hfit,⟨q.rng.temp,q.rng.ka,q.rng.kb,q.rng.k0,q.rng.k1,q.rng.i0,q.rng.i1,q.rng.t0,q.rng.t1,q.rng.n0,q.rng.n1⟩⟩
   exact R1.out.turn 7 _ ho (by rw [hz];rfl))
  have HZ:=hid hz
  have HVL:=hid hval
  clear hown hfit hval hb1 hp hz
  go_wp2_with fail
  try rw [hW2]
  go_meet
  case rel=>exact ⟨c,z,rfl,R2,hid (by
   rw [HRR.out,HVL.out,HZ.out]
   split<;>rfl)⟩
 case rest =>
 obtain ⟨c,z,rfl,R2,HRZ⟩:=hcut
 have HOK:Hid (restR y.en (bytesL ws)=if (c==0)=true then some z.en else none):=hid (by
  rw [HRZ.out]
  by_cases hc:c=0
  ·rw [if_pos hc,if_pos (beq_iff_eq.2 hc)]
  ·rw [if_neg hc,if_neg (fun q=>hc (beq_iff_eq.1 q))])
 clear HRZ
 have HRG:=hid R2.out.range
 have HTH:=hid R2.out.there
 obtain ⟨W4,hW4⟩:∃W4,wc.setCells (w.heap.size+1) 0 [.int .i64 z.kind,.string z.temp,.string z.ka,.string z.kb,.int .i64 z.iff,.slice z.vp z.vo.length z.vc,.slice z.ep z.eo.length z.ec,.slice z.pp z.po.length z.pc,.int .u64 z.stamp,.int .i64 z.num]=W4:=⟨_,rfl⟩
 obtain ⟨⟨g0,g1,g2,g3,g4,g5,g6,g7,g8,g9⟩,hown4,hbel4⟩:=R2.out.fin W4 hW4
 have HW4:Hid (wc.setCells (w.heap.size+1) 0 (#[.int .i64 z.kind,.string z.temp,.string z.ka,.string z.kb,.int .i64 z.iff,.slice z.vp z.vo.length z.vc,.slice z.ep z.eo.length z.ec,.slice z.pp z.po.length z.pc,.int .u64 z.stamp,.int .i64 z.num]:Array Value).toList=W4):=hid hW4
 have HOW:=hid hown4
 have HBE:=hid hbel4
 clear hown4 hbel4 hW4
 go_wp2_with (first|(refine wpList_load_as rfl 42 _ rfl w.heap.size 0 rfl [.int .i64 z.kind,.string z.temp,.string z.ka,.string z.kb,.int .i64 z.iff,.slice z.vp z.vo.length z.vc,.slice z.ep z.eo.length z.ec,.slice z.pp z.po.length z.pc,.int .u64 z.stamp,.int .i64 z.num] _ HRG.out Tryz.underlying42 rfl Tryz.entSize (.agg #[.int .i64 z.kind,.string z.temp,.string z.ka,.string z.kb,.int .i64 z.iff,.slice z.vp z.vo.length z.vc,.slice z.ep z.eo.length z.ec,.slice z.pp z.po.length z.pc,.int .u64 z.stamp,.int .i64 z.num]) rfl ?_)|(refine wpList_store_as rfl 42 _ _ rfl (w.heap.size+1) 0 #[.int .i64 z.kind,.string z.temp,.string z.ka,.string z.kb,.int .i64 z.iff,.slice z.vp z.vo.length z.vc,.slice z.ep z.eo.length z.ec,.slice z.pp z.po.length z.pc,.int .u64 z.stamp,.int .i64 z.num] rfl rfl HTH.out Tryz.entSize (one_ex z) W4 HW4.out ?_))
 exact bodyPost_ret (v:=.tuple #[.agg #[.int .i64 z.kind,.string z.temp,.string z.ka,.string z.kb,.int .i64 z.iff,.slice z.vp z.vo.length z.vc,.slice z.ep z.eo.length z.ec,.slice z.pp z.po.length z.pc,.int .u64 z.stamp,.int .i64 z.num],.bool (c==0)]) (by simp [results,Tryz.results43,go_sem,g0,g1,g2,g3,g4,g5,g6,g7,g8,g9]) rfl ⟨⟨z,(c==0),rfl,fun _=>HOW.out,HOK.out⟩,HBE.out⟩
end
section
open Go.RowKit Go.Lib
theorem slash_at {s:ByteArray} {i k:Nat} (hl:s.data.toList[i]? = some 47) (hn:(47:UInt8) ∉ s.data.toList.take i) (hk:k<s.size) (hc:s[k]=47) (hb:keyB (s.extract 0 k) (s.extract (k+1) s.size)=true):k=i:=by
 have hkl:s.data.toList[k]? = some 47:=by
  rw [List.getElem?_eq_getElem (by simpa using hk)]
  exact congrArg some ((byte_list s k hk).trans hc)
 rcases Nat.lt_trichotomy k i with h|h|h
 ·refine absurd ?_ hn
  exact List.mem_of_getElem? (i:=k) (by rw [List.getElem?_take,if_pos h];exact hkl)
 ·exact h
 ·have ht:=typeB_slash (keyB_parts hb).1
  rw [ext_head] at ht
  refine absurd ?_ ht
  exact List.mem_of_getElem? (i:=i) (by rw [List.getElem?_take,if_pos h];exact hl)
theorem rkeyp16_any (s:ByteArray) (w:World) (hs:s.size≤maxLen) :
  Calls Tryz.prog 41 #[.string s] w fun e w'=>(∃(a b:ByteArray) (c:Int),e=.returned (.tuple #[.agg #[.string a,.string b],.int .i64 c]) ∧
   ((c=0∧keyR s.data.toList=some (a,b))∨(c=2∧keyR s.data.toList=none)))∧Below w.heap.size w w':=by
 rcases ix_cases s.data.toList 47 with ⟨h1,h2⟩|⟨i,h1,h2,h3,h4⟩
 ·refine (krparse_any s w hs ⟨#[]⟩ ⟨#[]⟩ 2 (fun k hk hc _=>?_) fun _=>⟨rfl,rfl,rfl⟩).mono ?_
  ·refine absurd ?_ h2
   rw [←hc,←byte_list s k hk]
   exact List.getElem_mem _
  ·rintro e w' ⟨rfl,hb⟩
   exact ⟨⟨_,_,2,rfl,.inr ⟨rfl,by unfold keyR;rw [if_pos h1]⟩⟩,hb⟩
 ·have hi:i<s.size:=by simpa using h2
  have e1:(s.extract 0 i)=⟨(s.data.toList.take i).toArray⟩:=ba_ext (by rw [ext_head])
  have e2:(s.extract (i+1) s.size)=⟨(s.data.toList.drop (i+1)).toArray⟩:=ba_ext (by rw [ext_tail])
  have hne:¬ Lib.indexByte s.data.toList 47=-1:=by rw [h1];omega
  have hto:(Lib.indexByte s.data.toList 47).toNat=i:=by rw [h1];rfl
  have hci:s[i]=47:=by
   have q:=h3
   rw [List.getElem?_eq_getElem h2] at q
   rw [←byte_list s i hi];exact Option.some.inj q
  cases hk:keyB (s.extract 0 i) (s.extract (i+1) s.size) with
  | false =>
   refine (krparse_any s w hs ⟨#[]⟩ ⟨#[]⟩ 2 (fun k hk' hc hb=>?_) fun _=>⟨rfl,rfl,rfl⟩).mono ?_
   ·obtain rfl:=slash_at h3 h4 hk' hc hb
    rw [hk] at hb;cases hb
   ·rintro e w' ⟨rfl,hb⟩
    refine ⟨⟨_,_,2,rfl,.inr ⟨rfl,?_⟩⟩,hb⟩
    unfold keyR
    rw [if_neg hne]
    simp only [hto]
    rw [←e1,←e2,hk];rfl
  | true =>
   refine (krparse_any s w hs (s.extract 0 i) (s.extract (i+1) s.size) 0 (fun k hk' hc hb=>?_) fun hall=>?_).mono ?_
   ·obtain rfl:=slash_at h3 h4 hk' hc hb
    exact ⟨rfl,rfl,rfl⟩
   ·rw [hall i hi hci] at hk;cases hk
   ·rintro e w' ⟨rfl,hb⟩
    refine ⟨⟨_,_,0,rfl,.inl ⟨rfl,?_⟩⟩,hb⟩
    unfold keyR
    rw [if_neg hne]
    simp only [hto]
    rw [←e1,←e2,hk];rfl
theorem kindW_is {l:List UInt8} {k:Nat} (h:kindW l=k) (hk:k≠0):nameN k=l:=by
 unfold kindW at h
 split at h
 ·exact absurd h.symm hk
 ·cases hf:(List.range 13).find? (fun k=>decide (nameN k=l)) with
  | none=>rw [hf] at h;exact absurd h.symm hk
  | some j =>
   rw [hf] at h
   obtain rfl:j=k:=h
   simpa using List.find?_some hf
def upK (l:List UInt8) (k:Nat):Nat:=if kindW l<k then kindW l else 0
theorem upK_yes {l:List UInt8} {k:Nat} (h1:1≤k) (h2:k≤12) (h:l=nameN k):upK l (k+1)=k:=by
 have:kindW l=k:=by rw [h];exact kind_name k h1 h2
 unfold upK;rw [this,if_pos (by omega)]
theorem upK_no {l:List UInt8} {k:Nat} (h1:1≤k) (h:¬ l=nameN k):upK l (k+1)=upK l k:=by
 have:kindW l≠k:=fun q=>h (kindW_is q (by omega)).symm
 unfold upK
 by_cases hl:kindW l<k
 ·rw [if_pos hl,if_pos (by omega)]
 ·rw [if_neg hl,if_neg (by omega)]
theorem upK_one (l:List UInt8):upK l 1=0:=by unfold upK;split<;>omega
theorem upK_all (l:List UInt8):upK l 13=kindW l:=by unfold upK;rw [if_pos (by have:=kindW_le l;omega)]
theorem bytes_drop {ws:List ByteArray} {n:Nat} {x:ByteArray} (h:ws[n]? = some x):bytesL (ws.drop n)=x.data.toList::bytesL (ws.drop (n+1)):=by
 obtain ⟨hn,rfl⟩:=List.getElem?_eq_some_iff.1 h
 rw [List.drop_eq_getElem_cons hn];rfl
theorem bytes_none {ws:List ByteArray} {n:Nat} (h:ws.length≤n):bytesL (ws.drop n)=[]:=by rw [List.drop_eq_nil_of_le h];rfl
theorem bytes_at (ws:List ByteArray) (n:Nat):(bytesL (ws.drop n))[0]? = (ws.map (·.data.toList))[n]?:=by unfold bytesL;simp
theorem bytes_at1 (ws:List ByteArray) (n:Nat):(bytesL (ws.drop n))[1]? = (ws.map (·.data.toList))[n+1]?:=by unfold bytesL;simp
theorem bytes_len (ws:List ByteArray) (n:Nat):(bytesL (ws.drop n)).length=ws.length-n:=by unfold bytesL;simp
theorem stampR_le {x:Option (List UInt8)} {n:Nat} (h:stampR x=some n):n≤18446744073709551615:=by
 cases x with
 | none=>cases h
 | some l=>exact numL_le h
theorem smallR_le {x:Option (List UInt8)} {n:Nat} (h:smallR x=some n):n≤999999999:=by
 cases x with
 | none=>cases h
 | some l=>exact numL_le h
theorem tlr_num {e:En} {w:List (List UInt8)} (h:e.kind=7):tailR e w=if w.length=1 then (smallR w[0]?).bind fun n=>some { e with num:=(n:Int) } else none:=by
 unfold tailR
 rw [if_pos h]
 split
 ·cases smallR w[0]?<;>rfl
 ·rfl
theorem tlr_stamp {e:En} {w:List (List UInt8)} (h:e.kind=9∨e.kind=10):tailR e w=if w.length=1 then (stampR w[0]?).bind fun n=>some { e with stamp:=(n:Int) } else none:=by
 unfold tailR
 rw [if_neg (by omega),if_pos h]
 split
 ·cases stampR w[0]?<;>rfl
 ·rfl
theorem tlr_plain {e:En} {w:List (List UInt8)} (h:e.kind=6∨e.kind=11):tailR e w=if w=[] then some e else none:=by
 unfold tailR
 rw [if_neg (by omega),if_neg (by omega),if_pos h]
theorem tlr_if {e:En} {w:List (List UInt8)} (h3:3≤e.kind) (h5:e.kind≤5) (hw:w[0]? = some [105,102]):tailR e w=(smallR w[1]?).bind fun n=>if n=0 then none else restR { e with iff:=(n:Int) } (w.drop 2):=by
 unfold tailR
 rw [if_neg (by omega),if_neg (by omega),if_neg (by omega),if_pos ⟨h3,h5,hw⟩]
theorem tlr_rest {e:En} {w:List (List UInt8)} (h7:e.kind≠7) (h9:e.kind≠9) (h10:e.kind≠10) (h6:e.kind≠6) (h11:e.kind≠11) (h:¬ (3≤e.kind∧e.kind≤5∧w[0]? = some [105,102])):tailR e w=restR e w:=by
 unfold tailR
 rw [if_neg h7,if_neg (by omega),if_neg (by omega),if_neg h]
theorem kyt_typed {e:En} {x:List UInt8} {w:List (List UInt8)} (h:typedK e.kind=true):keyT e (x::w)=tailR { e with ka:=⟨x.toArray⟩ } w:=by
 show (if typedK e.kind=true then _ else _)=_
 rw [if_pos h]
theorem kyt_plain {e:En} {x:List UInt8} {w:List (List UInt8)} (h:typedK e.kind=false):keyT e (x::w)=(keyR x).bind fun k=>tailR { e with ka:=k.1,kb:=k.2 } w:=by
 show (if typedK e.kind=true then _ else _)=_
 rw [if_neg (by rw [h];decide)]
end
section
open Go.RowKit Go.Lib
theorem ba_of (b:ByteArray):(⟨b.data.toList.toArray⟩:ByteArray)=b:=by obtain ⟨⟨l⟩⟩:=b;rfl
end
section
open Go.RowKit Go.Lib
structure Bare (y:Ex) (kn:Nat):Prop where
 kind:y.kind=(kn:Int)
 bare:∃k tp ka kb fi st nm,y=bareX k tp ka kb fi st nm
 rng:RangeE y
theorem bare_zero (kn:Nat) (h:kn≤12):Bare (zeroEx (kn:Int)) kn :=
 ⟨rfl,⟨_,_,_,_,_,_,_,rfl⟩,⟨Nat.zero_le _,Nat.zero_le _,Nat.zero_le _,by show _≤(kn:Int);omega,by show (kn:Int)≤_;omega,by show (-9223372036854775808:Int)≤0;decide,by show (0:Int)≤9223372036854775807;decide,by show (0:Int)≤0;decide,by show (0:Int)≤18446744073709551615;decide,by show (-9223372036854775808:Int)≤0;decide,by show (0:Int)≤9223372036854775807;decide⟩⟩
theorem Bare.own {y:Ex} {kn:Nat} (h:Bare y kn) (n:Nat) (w:World):OwnQ n y w:=by
 obtain ⟨k,tp,ka,kb,fi,st,nm,rfl⟩:=h.bare
 exact ⟨(own_noneX _ _).1,⟨Nat.zero_le _,fun x hx=>by cases hx⟩,Kind.own_nil _ _ _,(show FitE [] from fitE_may (by decide)),Kind.own_nil _ _ _,(show FitM [] from fitM_may (by decide)),h.rng⟩
theorem Bare.temp {y:Ex} {kn:Nat} (h:Bare y kn) (t:ByteArray) (ht:t.size≤maxLen):Bare { y with temp:=t } kn:=by
 obtain ⟨k,tp,ka,kb,fi,st,nm,rfl⟩:=h.bare
 exact ⟨h.kind,⟨_,_,_,_,_,_,_,rfl⟩,{ h.rng with temp:=ht }⟩
theorem Bare.stamp {y:Ex} {kn:Nat} (h:Bare y kn) (t:Int) (h0:0≤t) (h1:t≤18446744073709551615):Bare { y with stamp:=t } kn:=by
 obtain ⟨k,tp,ka,kb,fi,st,nm,rfl⟩:=h.bare
 exact ⟨h.kind,⟨_,_,_,_,_,_,_,rfl⟩,{ h.rng with t0:=h0,t1:=h1 }⟩
theorem Bare.num {y:Ex} {kn:Nat} (h:Bare y kn) (t:Int) (h0:0≤t) (h1:t≤999999999):Bare { y with num:=t } kn:=by
 obtain ⟨k,tp,ka,kb,fi,st,nm,rfl⟩:=h.bare
 exact ⟨h.kind,⟨_,_,_,_,_,_,_,rfl⟩,{ h.rng with n0:=by show _≤t;omega,n1:=by show t≤_;omega }⟩
theorem Bare.iff {y:Ex} {kn:Nat} (h:Bare y kn) (t:Int) (h0:0≤t) (h1:t≤999999999):Bare { y with iff:=t } kn:=by
 obtain ⟨k,tp,ka,kb,fi,st,nm,rfl⟩:=h.bare
 exact ⟨h.kind,⟨_,_,_,_,_,_,_,rfl⟩,{ h.rng with i0:=by show _≤t;omega,i1:=by show t≤_;omega }⟩
theorem Bare.keys {y:Ex} {kn:Nat} (h:Bare y kn) (a b:ByteArray) (ha:a.size≤maxLen) (hb:b.size≤maxLen):Bare { y with ka:=a,kb:=b } kn:=by
 obtain ⟨k,tp,ka,kb,fi,st,nm,rfl⟩:=h.bare
 exact ⟨h.kind,⟨_,_,_,_,_,_,_,rfl⟩,{ h.rng with ka:=ha,kb:=hb }⟩
structure Upto (w V:World) (kn:Nat) (y:Ex) (o:Option En) (f:En→Option En) (ok:Bool):Prop where
 rs:RsSt w (w.heap.size+1) w.heap.size V y
 bare:Bare y kn
 is:o=if ok=true then f y.en else none
theorem rs_start2 (w:World):RsSt w (w.heap.size+1) w.heap.size ((w.alloc (.cells #[.int .i64 0,.string ⟨#[]⟩,.string ⟨#[]⟩,.string ⟨#[]⟩,.int .i64 0,.slice none 0 0,.slice none 0 0,.slice none 0 0,.int .u64 0,.int .i64 0] 42)).alloc (.cells #[.int .i64 0,.string ⟨#[]⟩,.string ⟨#[]⟩,.string ⟨#[]⟩,.int .i64 0,.slice none 0 0,.slice none 0 0,.slice none 0 0,.int .u64 0,.int .i64 0] 42)) (zeroEx 0):=by
 have hb:Below w.heap.size w ((w.alloc (.cells #[.int .i64 0,.string ⟨#[]⟩,.string ⟨#[]⟩,.string ⟨#[]⟩,.int .i64 0,.slice none 0 0,.slice none 0 0,.slice none 0 0,.int .u64 0,.int .i64 0] 42)).alloc (.cells #[.int .i64 0,.string ⟨#[]⟩,.string ⟨#[]⟩,.string ⟨#[]⟩,.int .i64 0,.slice none 0 0,.slice none 0 0,.slice none 0 0,.int .u64 0,.int .i64 0] 42)):=((Below.refl _ _).alloc (Nat.le_refl _) _).alloc (by simp) _
 have h1:((w.alloc (.cells #[.int .i64 0,.string ⟨#[]⟩,.string ⟨#[]⟩,.string ⟨#[]⟩,.int .i64 0,.slice none 0 0,.slice none 0 0,.slice none 0 0,.int .u64 0,.int .i64 0] 42)).alloc (.cells #[.int .i64 0,.string ⟨#[]⟩,.string ⟨#[]⟩,.string ⟨#[]⟩,.int .i64 0,.slice none 0 0,.slice none 0 0,.slice none 0 0,.int .u64 0,.int .i64 0] 42)).heap[w.heap.size+1]? = some (.cells #[.int .i64 0,.string ⟨#[]⟩,.string ⟨#[]⟩,.string ⟨#[]⟩,.int .i64 0,.slice none 0 0,.slice none 0 0,.slice none 0 0,.int .u64 0,.int .i64 0] 42 (0,0)):=by
  have:=heap_alloc_new (w.alloc (.cells #[.int .i64 0,.string ⟨#[]⟩,.string ⟨#[]⟩,.string ⟨#[]⟩,.int .i64 0,.slice none 0 0,.slice none 0 0,.slice none 0 0,.int .u64 0,.int .i64 0] 42)) (.cells #[.int .i64 0,.string ⟨#[]⟩,.string ⟨#[]⟩,.string ⟨#[]⟩,.int .i64 0,.slice none 0 0,.slice none 0 0,.slice none 0 0,.int .u64 0,.int .i64 0] 42)
  simpa using this
 exact ⟨h1,(Below.heap_alloc _ _ _ (by simp)).trans (heap_alloc_new w _),zero_own _ _ 0 (by decide) (by decide),hb,by omega,Nat.le_refl _,by omega⟩
set_option maxHeartbeats 20000000 in
set_option maxRecDepth 100000 in
theorem rentry16_any (p:Option Addr) (cap:Nat) (ws:List ByteArray) (w:World) (ht:TxtAt w p ws) (h0:0<ws.length) (hl:ws.length≤1000000000) (hcap:ws.length≤cap) (hs:∀x∈ws,x.size≤1000000000000) :
  Calls Tryz.prog 19 #[.slice p ws.length cap] w fun e w'=>EnR w (entryR (bytesL ws)) e w':=by
 have HS:=hid hs
 have HT:=hid ht
 obtain ⟨b,off,hp,hcc⟩:∃b off,p=some ⟨b,off,none⟩∧∀i,(h:i<ws.length)→w.cell? ⟨b,off+i,none⟩=some (.string ws[i]):=by
  rcases ht with h|⟨b,off,h1,h2⟩
  ·rw [h] at h0;simp at h0
  ·exact ⟨b,off,h1,h2⟩
 subst hp
 have HTX:Hid (∀V i x,ws[i]? = some x→Below w.heap.size w V→V.cell? ⟨b,off+i,none⟩=some (.string x)):=hid fun V i x hx hV=>by
  obtain ⟨hi,rfl⟩:=List.getElem?_eq_some_iff.1 hx
  exact kept hV (hcc i hi)
 have HTV:Hid (∀V,Below w.heap.size w V→TxtAt V (some ⟨b,off,none⟩) ws):=hid fun V hV=>txt_on HT.out hV
 obtain ⟨x,hx⟩:∃x,ws[0]? = some x:=⟨_,List.getElem?_eq_getElem h0⟩
 have HX0:Hid (bytesL ws=x.data.toList::bytesL (ws.drop 1)):=hid (by have:=bytes_drop hx;simpa using this)
 have HXA:Hid (∀V,Below w.heap.size w V→V.cell? ⟨b,off,none⟩=some (.string x)):=hid fun V hV=>by have:=HTX.out V 0 x hx hV;simpa using this
 obtain ⟨O,hO⟩:∃o,entryR (bytesL ws)=o:=⟨_,rfl⟩
 rw [hO]
 have HO:=hid hO
 have R0:=hid (rs_start2 w)
 obtain ⟨W0,hW0⟩:∃W0,((w.alloc (.cells #[.int .i64 0,.string ⟨#[]⟩,.string ⟨#[]⟩,.string ⟨#[]⟩,.int .i64 0,.slice none 0 0,.slice none 0 0,.slice none 0 0,.int .u64 0,.int .i64 0] 42)).alloc (.cells #[.int .i64 0,.string ⟨#[]⟩,.string ⟨#[]⟩,.string ⟨#[]⟩,.int .i64 0,.slice none 0 0,.slice none 0 0,.slice none 0 0,.int .u64 0,.int .i64 0] 42))=W0:=⟨_,rfl⟩
 rw [hW0] at R0
 have h0z:(0:Int)<(ws.length:Int):=by omega
 clear ht hcc hx hs hO
 go_enter Tryz.func19,Tryz.ntmps19
 go_wp2_with fail
 try rw [hW0]
 clear hW0
 go_loopg [5] 13 (fun g v5 wx=>∃(k:Nat) (y:Ex),v5=.int .i64 k∧1≤k∧k≤13∧13-k≤g∧Hid (y=zeroEx ((upK x.data.toList k:Nat):Int))∧Hid (RsSt w (w.heap.size+1) w.heap.size wx y))
 case atStart=>exact ⟨1,zeroEx 0,rfl,by omega,by omega,by omega,hid (by rw [upK_one];rfl),R0⟩
 case round =>
  clear R0
  obtain ⟨k,y,rfl,hk1,hk13,hkg,HY,R⟩:=hrel
  by_cases hk:k≤12
  ·as_aux_lemma =>
   have hkz:(k:Int)≤12:=by omega
   have HNM:=hid fun W=>rname16_yes (k:Int) W (by omega) (by omega)
   obtain ⟨nb,hnb⟩:∃nb,nameS (k:Int)=nb:=⟨_,rfl⟩
   have hnd:nb.data.toList=nameN k:=by rw [←hnb];rfl
   rw [hnb] at HNM
   have HND:=hid hnd
   clear hnb hnd
   have HSX:Hid (∀w',Below wr.heap.size wr w'→w'.cell? ⟨b,off,none⟩=some (.string x)):=hid fun w' h=>HXA.out w' (R.out.bel.trans (h.mono R.out.bel.size))
   have hsx:=HSX.out wr.drew (bel_drewN (Below.refl _ _) 1)
   by_cases hq:x=nb
   ·have hq2:(x.toList==nb.toList)=true:=seq_true hq
    have HUP:=hid (upK_yes (l:=x.data.toList) hk1 hk (by rw [hq,HND.out]))
    clear hq
    go_upto_region 5 with fail
    refine wp_region_held_drew (S:=fun w'=>w'.cell? ⟨b,off,none⟩=some (.string x)) (by kernel_rfl) hsx (fun hHeld=>?_)
    refine tkv 0 (.slice (some ⟨b,off,none⟩) ws.length cap) hHeld ?_
    simp only [Act.put,sz]
    refine tkv 1 (.pointer (some ⟨b,off,none⟩)) hHeld ?_
    simp only [Act.put,sz]
    refine tkv 2 (.string x) hHeld ?_
    simp only [Act.put,sz]
    refine tkv 3 (.int .i64 k) hHeld ?_
    simp only [Act.put,sz]
    refine wpAnyH_ready (rs:=[4]) (by kernel_rfl) (by simp) ?_
    refine AllReadyH.cons (at_drop0 rfl) (fun K hK=>?_) AllReadyH.nil
    rw [if_pos (by rfl)]
    go_simp
    refine (HNM.out _).mono ?_
    rintro e w3 ⟨rfl,hb3⟩
    have hb3':Below wr.heap.size wr w3:=(bel_drewN (Below.refl wr.heap.size wr) 1).trans hb3
    have q3:=HSX.out w3 hb3'
    have HB3:=hid hb3'
    clear hb3 hb3'
    go_wp2_with fail
    refine hK.out _ _ q3 (fun hHeld=>?_)
    clear hK K
    try simp only [Act.put,sz]
    refine tkv 5 (.bool true) hHeld ?_
    simp only [Act.put,sz]
    refine wpAnyH_done (by kernel_rfl) ?_ _
    clear hHeld
    have R3:=hid (R.out.on HB3.out)
    have f0:=R3.out.open 0
    have z0:w3.cell? ⟨w.heap.size+1,0,none⟩=some (.int .i64 y.kind):=R3.out.cells.1
    obtain ⟨W5,hW5⟩:∃W5,w3.setCell ⟨w.heap.size+1,0,none⟩ (.int .i64 (k:Int))=W5:=⟨_,rfl⟩
    have R5:Hid (RsSt w (w.heap.size+1) w.heap.size W5 (zeroEx (k:Int))):=hid (by
     rw [←hW5]
     refine R3.out.turn 0 _ (zero_own _ _ _ (by omega) (by omega)) ?_
     rw [HY.out];rfl)
    go_wp2_with fail
    try rw [hW5]
    clear hW5
    go_roundg (13-(k+1))
    case measure=>omega
    exact ⟨k+1,zeroEx (k:Int),by go_num,by omega,by omega,by omega,hid (by rw [HUP.out]),R5⟩
   ·have hq2:(x.toList==nb.toList)=false:=seq_false hq
    have HUP:=hid (upK_no (l:=x.data.toList) hk1 (fun q=>hq (ba_ext (by rw [q,HND.out]))))
    clear hq
    go_upto_region 5 with fail
    refine wp_region_held_drew (S:=fun w'=>w'.cell? ⟨b,off,none⟩=some (.string x)) (by kernel_rfl) hsx (fun hHeld=>?_)
    refine tkv 0 (.slice (some ⟨b,off,none⟩) ws.length cap) hHeld ?_
    simp only [Act.put,sz]
    refine tkv 1 (.pointer (some ⟨b,off,none⟩)) hHeld ?_
    simp only [Act.put,sz]
    refine tkv 2 (.string x) hHeld ?_
    simp only [Act.put,sz]
    refine tkv 3 (.int .i64 k) hHeld ?_
    simp only [Act.put,sz]
    refine wpAnyH_ready (rs:=[4]) (by kernel_rfl) (by simp) ?_
    refine AllReadyH.cons (at_drop0 rfl) (fun K hK=>?_) AllReadyH.nil
    rw [if_pos (by rfl)]
    go_simp
    refine (HNM.out _).mono ?_
    rintro e w3 ⟨rfl,hb3⟩
    have hb3':Below wr.heap.size wr w3:=(bel_drewN (Below.refl wr.heap.size wr) 1).trans hb3
    have q3:=HSX.out w3 hb3'
    have HB3:=hid hb3'
    clear hb3 hb3'
    go_wp2_with fail
    refine hK.out _ _ q3 (fun hHeld=>?_)
    clear hK K
    try simp only [Act.put,sz]
    refine tkv 5 (.bool false) hHeld ?_
    simp only [Act.put,sz]
    refine wpAnyH_done (by kernel_rfl) ?_ _
    clear hHeld
    have R3:=hid (R.out.on HB3.out)
    go_wp2_with fail
    go_roundg (13-(k+1))
    case measure=>omega
    exact ⟨k+1,y,by go_num,by omega,by omega,by omega,hid (by rw [HUP.out];exact HY.out),R3⟩
  ·have HK13:Hid (k=13):=hid (by omega)
   have hkz:¬ (k:Int)≤12:=by omega
   obtain ⟨kn,hkn⟩:∃kn,kindW x.data.toList=kn:=⟨_,rfl⟩
   have hkn12:kn≤12:=by rw [←hkn];exact kindW_le _
   have HKN:=hid hkn
   have HB0:Hid (Bare y kn):=hid (by rw [HY.out,HK13.out,upK_all,hkn];exact bare_zero kn hkn12)
   have HYZ:Hid (y.en=zeroEn (kn:Int)):=hid (by rw [HY.out,HK13.out,upK_all,hkn];rfl)
   have HE0:Hid (O=if kn=0 then none else tempT (zeroEn (kn:Int)) (bytesL (ws.drop 1))):=hid (by rw [←HO.out,HX0.out,entryR_cons,hkn])
   clear hkn HY hk1 hk13 hkg hk
   have c0:wr.cell? ⟨w.heap.size+1,0,none⟩=some (.int .i64 (kn:Int)):=by rw [R.out.cells.1,HB0.out.kind]
   by_cases k0:kn=0
   ·as_aux_lemma =>
    subst k0
    have HNO:Hid (O=none):=hid (by rw [HE0.out];rfl)
    go_upto_region 17 with fail
    clear c0
    have HRG:=hid R.out.range
    have HTH:=hid R.out.there
    obtain ⟨W4,hW4⟩:∃W4,wr.setCells w.heap.size 0 [.int .i64 y.kind,.string y.temp,.string y.ka,.string y.kb,.int .i64 y.iff,.slice y.vp y.vo.length y.vc,.slice y.ep y.eo.length y.ec,.slice y.pp y.po.length y.pc,.int .u64 y.stamp,.int .i64 y.num]=W4:=⟨_,rfl⟩
    obtain ⟨⟨g0,g1,g2,g3,g4,g5,g6,g7,g8,g9⟩,hown4,hbel4⟩:=R.out.fin W4 hW4
    have HW4:Hid (wr.setCells w.heap.size 0 (#[.int .i64 y.kind,.string y.temp,.string y.ka,.string y.kb,.int .i64 y.iff,.slice y.vp y.vo.length y.vc,.slice y.ep y.eo.length y.ec,.slice y.pp y.po.length y.pc,.int .u64 y.stamp,.int .i64 y.num]:Array Value).toList=W4):=hid hW4
    have HOW:=hid hown4
    have HBE:=hid hbel4
    clear hown4 hbel4 hW4
    go_wp2_with (first|(refine wpList_load_as rfl 42 _ rfl (w.heap.size+1) 0 rfl [.int .i64 y.kind,.string y.temp,.string y.ka,.string y.kb,.int .i64 y.iff,.slice y.vp y.vo.length y.vc,.slice y.ep y.eo.length y.ec,.slice y.pp y.po.length y.pc,.int .u64 y.stamp,.int .i64 y.num] _ HRG.out Tryz.underlying42 rfl Tryz.entSize (.agg #[.int .i64 y.kind,.string y.temp,.string y.ka,.string y.kb,.int .i64 y.iff,.slice y.vp y.vo.length y.vc,.slice y.ep y.eo.length y.ec,.slice y.pp y.po.length y.pc,.int .u64 y.stamp,.int .i64 y.num]) rfl ?_)|(refine wpList_store_as rfl 42 _ _ rfl w.heap.size 0 #[.int .i64 y.kind,.string y.temp,.string y.ka,.string y.kb,.int .i64 y.iff,.slice y.vp y.vo.length y.vc,.slice y.ep y.eo.length y.ec,.slice y.pp y.po.length y.pc,.int .u64 y.stamp,.int .i64 y.num] rfl rfl HTH.out Tryz.entSize (one_ex y) W4 HW4.out ?_))
    exact bodyPost_ret (v:=.tuple #[.agg #[.int .i64 y.kind,.string y.temp,.string y.ka,.string y.kb,.int .i64 y.iff,.slice y.vp y.vo.length y.vc,.slice y.ep y.eo.length y.ec,.slice y.pp y.po.length y.pc,.int .u64 y.stamp,.int .i64 y.num],.bool false]) (by simp [results,Tryz.results19,go_sem,g0,g1,g2,g3,g4,g5,g6,g7,g8,g9]) rfl ⟨⟨y,false,rfl,fun _=>HOW.out,by rw [HNO.out];rfl⟩,HBE.out⟩
   have k0z:(0:Int)<(kn:Int):=by omega
   have HE1:Hid (O=tempT (zeroEn (kn:Int)) (bytesL (ws.drop 1))):=hid (by rw [HE0.out,if_neg k0])
   clear HE0
   obtain ⟨T,hT⟩:∃T:Bool,(decide (kn≤2)&&(match ws[1]? with|some x1=>decide (x1.data.toList.head? = some 64)|none=>false))=T:=⟨_,rfl⟩
   have HTT:=hid hT
   clear hT
   go_upto_region 9 with fail
   try rw [show decide (0<kn)=true from decide_eq_true (by omega)]
   go_cut [56] from 14 (fun v56 wx=>v56=.bool T∧Hid (RsSt w (w.heap.size+1) w.heap.size wx y))
   case first =>
    as_aux_lemma =>
    by_cases h2:kn≤2
    case neg =>
     have h2z:¬ (kn:Int)≤2:=by omega
     have ET:Hid (T=false):=hid (by rw [←HTT.out,decide_eq_false h2];rfl)
     go_wp2_with fail
     go_meet
     case rel=>exact ⟨by rw [ET.out],R⟩
    have h2z:(kn:Int)≤2:=by omega
    by_cases h1:1<ws.length
    case neg =>
     have h1z:¬ (1:Int)<(ws.length:Int):=by omega
     have ET:Hid (T=false):=hid (by rw [←HTT.out,List.getElem?_eq_none (by omega)];simp)
     go_wp2_with fail
     go_meet
     case rel=>exact ⟨by rw [ET.out],R⟩
    have h1z:(1:Int)<(ws.length:Int):=by omega
    obtain ⟨x1,hx1⟩:∃x1,ws[1]? = some x1:=⟨_,List.getElem?_eq_getElem h1⟩
    have cx:=HTX.out wr 1 x1 hx1 R.out.bel
    have HT1:Hid (T=decide (x1.data.toList.head? = some 64)):=hid (by rw [←HTT.out,hx1,decide_eq_true h2];rfl)
    have hsz:=HS.out x1 (List.mem_of_getElem? hx1)
    clear hx1
    by_cases hz:0<x1.size
    case neg =>
     have hzz:¬ (0:Int)<(x1.size:Int):=by omega
     have ET:Hid (T=false):=hid (by
      rw [HT1.out]
      have:x1.data.toList=[]:=List.length_eq_zero_iff.1 (by have:x1.data.toList.length=x1.size:=rfl;omega)
      rw [this];rfl)
     go_wp2_with fail
     go_meet
     case rel=>exact ⟨by rw [ET.out],R⟩
    have hzz:(0:Int)<(x1.size:Int):=by omega
    obtain ⟨c,hc⟩:∃c,x1[0]=c:=⟨_,rfl⟩
    have HC:Hid (T=decide (c=64)):=hid (by
     rw [HT1.out,List.head?_eq_getElem?,List.getElem?_eq_getElem (by simpa using hz),byte_list x1 0 hz,hc]
     simp)
    by_cases h64:c=64
    ·have b64:(((c.toNat:Nat):Int)==64)=true:=by rw [h64];rfl
     have ET:Hid (T=true):=hid (by rw [HC.out,decide_eq_true h64])
     clear h64
     go_wp2_with fail
     go_meet
     case rel=>exact ⟨by rw [ET.out],R⟩
    ·have b64:(((c.toNat:Nat):Int)==64)=false:=by
      rw [beq_eq_false_iff_ne]
      intro q
      exact h64 (UInt8.toNat_inj.1 (by rw [show c.toNat=64 by omega];rfl))
     have ET:Hid (T=false):=hid (by rw [HC.out,decide_eq_false h64])
     clear h64
     go_wp2_with fail
     go_meet
     case rel=>exact ⟨by rw [ET.out],R⟩
   case rest =>
   obtain ⟨rfl,R1⟩:=hcut
   clear c0 R
   go_upto_if 56 with fail
   go_cut [6,7] from 14 (fun v6 v7 wx=>∃(m:Nat) (ok:Bool) (y1:Ex),v6=.int .i64 m∧v7=.bool ok∧m≤2∧Hid (Upto w wx kn y1 O (fun e=>stampT e (bytesL (ws.drop m))) ok))
   case first =>
    as_aux_lemma =>
    cases T with
    | false =>
     have HU:Hid (Upto w wc kn y O (fun e=>stampT e (bytesL (ws.drop 1))) true):=hid ⟨R1.out,HB0.out,by
      rw [HE1.out,if_pos rfl,HYZ.out]
      have hq:=HTT.out
      cases hw:bytesL (ws.drop 1) with
      | nil=>rfl
      | cons z r =>
       cases z with
       | nil=>rfl
       | cons c t =>
        by_cases hc:c=64
        ·subst hc
         by_cases h2:kn≤2
         ·exfalso
          rw [decide_eq_true h2,Bool.true_and] at hq
          cases h1:ws[1]? with
          | none =>
           rw [bytes_none (by rw [List.getElem?_eq_none_iff] at h1;exact h1)] at hw
           cases hw
          | some x1 =>
           rw [bytes_drop h1] at hw
           injection hw with hw1 _
           rw [h1] at hq
           simp [hw1] at hq
         ·show (if (zeroEn (kn:Int)).kind≤2 then _ else stampT (zeroEn (kn:Int)) ((64::t)::r))=_
          rw [if_neg (by show ¬ (kn:Int)≤2;omega)]
        ·unfold tempT
         split
         ·rename_i heq
          injection heq with h1 _
          injection h1 with h2 _
          exact absurd h2 hc
         ·rfl⟩
     go_wp2_with fail
     go_meet
     case rel=>exact ⟨1,true,y,rfl,rfl,by omega,HU⟩
    | true =>
     obtain ⟨h2,x1,hx1,hh⟩:kn≤2∧∃x1,ws[1]? = some x1∧x1.data.toList.head? = some 64:=by
      have hq:=HTT.out
      rw [Bool.and_eq_true,decide_eq_true_eq] at hq
      cases h1:ws[1]? with
      | none=>rw [h1] at hq;simp at hq
      | some x1=>rw [h1] at hq;exact ⟨hq.1,x1,rfl,by simpa using hq.2⟩
     have h1:1<ws.length:=(List.getElem?_eq_some_iff.1 hx1).1
     have h1z:(1:Int)<(ws.length:Int):=by omega
     have cx:=HTX.out wc 1 x1 hx1 R1.out.bel
     have hsz:=HS.out x1 (List.mem_of_getElem? hx1)
     obtain ⟨t,htl⟩:∃t,x1.data.toList=64::t:=by
      cases hl:x1.data.toList with
      | nil=>rw [hl] at hh;cases hh
      | cons c t=>rw [hl] at hh;cases hh;exact ⟨t,rfl⟩
     have hzz:(1:Int)≤(x1.size:Int):=by
      have:x1.data.toList.length=x1.size:=rfl
      rw [htl] at this;simp at this;omega
     obtain ⟨tb,htb⟩:∃tb,x1.extract 1 x1.size=tb:=⟨_,rfl⟩
     have htd:tb.data.toList=t:=by rw [←htb,ext_tail,htl];rfl
     have hts:tb.size≤1000000000000:=by
      have e1:tb.data.toList.length=tb.size:=rfl
      have e2:x1.data.toList.length=x1.size:=rfl
      rw [htd] at e1;rw [htl] at e2;simp at e2;omega
     have f1:=R1.out.open 1
     have z1:wc.cell? ⟨w.heap.size+1,1,none⟩=some (.string y.temp):=R1.out.cells.2.1
     obtain ⟨y1,hy1⟩:∃q:Ex,q={ y with temp:=tb }:=⟨_,rfl⟩
     have hbr:Bare y1 kn:=by rw [hy1];exact HB0.out.temp tb (by unfold maxLen;omega)
     obtain ⟨W5,hW5⟩:∃W5,wc.setCell ⟨w.heap.size+1,1,none⟩ (.string tb)=W5:=⟨_,rfl⟩
     have R5:Hid (RsSt w (w.heap.size+1) w.heap.size W5 y1):=hid (by
      rw [←hW5]
      exact R1.out.turn 1 _ (hbr.own _ _) (by rw [hy1];rfl))
     have z2:W5.cell? ⟨w.heap.size+1,1,none⟩=some (.string tb):=by rw [R5.out.cells.2.1,hy1]
     have HBR:=hid hbr
     have HLS:Hid (bytesL (ws.drop 1)=(64::t)::bytesL (ws.drop 2)):=hid (by rw [bytes_drop hx1,htl])
     have HTD:=hid htd
     have HTB:=hid htb
     have HY1:=hid hy1
     clear hbr htl hh hx1 htd hy1
     by_cases hte:t=[]
     ·have hie:tb.toList.isEmpty=true:=by rw [Lib.toList_data,HTD.out,hte];rfl
      have HU:Hid (Upto w W5 kn y1 O (fun e=>stampT e (bytesL (ws.drop 2))) false):=hid ⟨R5.out,HBR.out,by
       rw [HE1.out,HLS.out,hte]
       show (if (zeroEn (kn:Int)).kind≤2 then if ([]:List UInt8)=[] then none else _ else _)=_
       rw [if_pos (by show (kn:Int)≤2;omega),if_pos rfl]
       rfl⟩
      clear hte
      go_wp2_with fail
      try rw [hW5]
      go_meet
      case rel=>exact ⟨2,false,y1,rfl,rfl,by omega,HU⟩
     ·have hie:tb.toList.isEmpty=false:=isEmpty_no16 (fun q=>hte (by first|(rw [←HTD.out,q];done)|(rw [←HTD.out,q];rfl)))
      have HU:Hid (Upto w W5 kn y1 O (fun e=>stampT e (bytesL (ws.drop 2))) true):=hid ⟨R5.out,HBR.out,by
       rw [HE1.out,HLS.out,if_pos rfl]
       show (if (zeroEn (kn:Int)).kind≤2 then if t=[] then none else stampT { zeroEn (kn:Int) with temp:=⟨t.toArray⟩ } _ else _)=_
       rw [if_pos (by show (kn:Int)≤2;omega),if_neg hte]
       have:y1.en={ zeroEn (kn:Int) with temp:=⟨t.toArray⟩ }:=by
        rw [HY1.out,←HYZ.out]
        have:tb=⟨t.toArray⟩:=ba_ext HTD.out
        rw [this];rfl
       rw [this]⟩
      clear hte
      go_wp2_with fail
      try rw [hW5]
      go_meet
      case rel=>exact ⟨2,true,y1,rfl,rfl,by omega,HU⟩
   case rest =>
   obtain ⟨m,ok,y1,rfl,rfl,hm,U1⟩:=hcut
   clear R1 HB0 HYZ HE1 HTT
   have c0:wc.cell? ⟨w.heap.size+1,0,none⟩=some (.int .i64 (kn:Int)):=by rw [U1.out.rs.cells.1,U1.out.bare.kind]
   go_upto_region 13 with fail
   go_cut [73] from 14 (fun v73 wx=>v73=.bool (ok&&decide (10<kn))∧Hid (Upto w wx kn y1 O (fun e=>stampT e (bytesL (ws.drop m))) ok))
   case first =>
    as_aux_lemma =>
    cases ok with
    | false =>
     go_wp2_with fail
     go_meet
     case rel=>exact ⟨rfl,U1⟩
    | true =>
     by_cases h10:10<kn
     ·have hz:(10:Int)<(kn:Int):=by omega
      have E:Hid ((true&&decide (10<kn))=true):=hid (by rw [decide_eq_true h10];rfl)
      go_wp2_with fail
      go_meet
      case rel=>exact ⟨by rw [E.out],U1⟩
     ·have hz:¬ (10:Int)<(kn:Int):=by omega
      have E:Hid ((true&&decide (10<kn))=false):=hid (by rw [decide_eq_false h10];rfl)
      go_wp2_with fail
      go_meet
      case rel=>exact ⟨by rw [E.out],U1⟩
   case rest =>
   obtain ⟨rfl,U2⟩:=hcut
   clear c0 U1
   go_upto_if 73 with fail
   go_cut [6,7] from 14 (fun v6 v7 wx=>∃(m:Nat) (ok:Bool) (y1:Ex),v6=.int .i64 m∧v7=.bool ok∧m≤3∧Hid (Upto w wx kn y1 O (fun e=>keyT e (bytesL (ws.drop m))) ok))
   case first =>
    as_aux_lemma =>
    by_cases hg:ok=true∧10<kn
    ·obtain ⟨rfl,h10⟩:=hg
     have e1:(true&&decide (10<kn))=true:=by rw [decide_eq_true h10];rfl
     rw [e1]
     have HST:=hid (rstamp16_any (some ⟨b,off,none⟩) cap ws m wc (HTV.out _ U2.out.rs.bel) HS.out (by omega))
     obtain ⟨so,hso⟩:∃so,stampR ((ws.map (·.data.toList))[m]?)=so:=⟨_,rfl⟩
     have hsl:((so.getD 0:Nat):Int)≤18446744073709551615:=by
      cases so with
      | none=>show (0:Int)≤_;decide
      | some n=>have:=stampR_le hso;show (n:Int)≤_;omega
     have HIS:Hid (O=so.bind fun n=>keyT { y1.en with stamp:=(n:Int) } (bytesL (ws.drop (m+1)))):=hid (by
      rw [U2.out.is,if_pos rfl]
      show stampT y1.en _=_
      unfold stampT
      rw [if_pos (by show 10<y1.kind;rw [U2.out.bare.kind];omega),bytes_at,hso]
      congr 1
      funext n
      unfold bytesL;rw [←List.map_drop,List.drop_drop,List.map_drop])
     rw [hso] at HST
     unfold numV at HST
     obtain ⟨sn,hsn⟩:∃sn:Nat,so.getD 0=sn:=⟨_,rfl⟩
     rw [hsn] at HST hsl
     have f8:=U2.out.rs.open 8
     have z8:wc.cell? ⟨w.heap.size+1,8,none⟩=some (.int .u64 y1.stamp):=U2.out.rs.cells.2.2.2.2.2.2.2.2.1
     obtain ⟨y2,hy2⟩:∃q:Ex,q={ y1 with stamp:=(sn:Int) }:=⟨_,rfl⟩
     have hbr:Bare y2 kn:=by rw [hy2];exact U2.out.bare.stamp _ (by omega) hsl
     obtain ⟨W5,hW5⟩:∃W5,wc.setCell ⟨w.heap.size+1,8,none⟩ (.int .u64 (sn:Int))=W5:=⟨_,rfl⟩
     have R5:Hid (RsSt w (w.heap.size+1) w.heap.size W5 y2):=hid (by
      rw [←hW5]
      exact U2.out.rs.turn 8 _ (hbr.own _ _) (by rw [hy2];rfl))
     have HBR:=hid hbr
     have HY2:=hid hy2
     have HSN:=hid hsn
     clear hbr hy2 hso e1 hsn
     cases so with
     | none =>
      have HU:Hid (Upto w W5 kn y2 O (fun e=>keyT e (bytesL (ws.drop (m+1)))) false):=hid ⟨R5.out,HBR.out,by rw [HIS.out];rfl⟩
      go_wp2_with fail
      refine HST.out.mono ?_
      rintro e w7 ⟨rfl,rfl⟩
      go_wp2_with fail
      try rw [hW5]
      go_meet
      case rel=>exact ⟨m+1,false,y2,by go_num,rfl,by omega,HU⟩
     | some n =>
      have HU:Hid (Upto w W5 kn y2 O (fun e=>keyT e (bytesL (ws.drop (m+1)))) true):=hid ⟨R5.out,HBR.out,by
       rw [HIS.out,if_pos rfl,HY2.out]
       have:n=sn:=HSN.out
       rw [←this];rfl⟩
      go_wp2_with fail
      refine HST.out.mono ?_
      rintro e w7 ⟨rfl,rfl⟩
      go_wp2_with fail
      try rw [hW5]
      go_meet
      case rel=>exact ⟨m+1,true,y2,by go_num,rfl,by omega,HU⟩
    ·have e1:(ok&&decide (10<kn))=false:=by
      cases ok with
      | false=>rfl
      | true =>
       have:¬ 10<kn:=fun q=>hg ⟨rfl,q⟩
       rw [decide_eq_false this];rfl
     rw [e1]
     have HU:Hid (Upto w wc kn y1 O (fun e=>keyT e (bytesL (ws.drop m))) ok):=hid ⟨U2.out.rs,U2.out.bare,by
      rw [U2.out.is]
      cases ok with
      | false=>rfl
      | true =>
       have:¬ 10<kn:=fun q=>hg ⟨rfl,q⟩
       rw [if_pos rfl,if_pos rfl]
       show stampT y1.en _=keyT y1.en _
       unfold stampT
       rw [if_neg (by show ¬ 10<y1.kind;rw [U2.out.bare.kind];omega)]⟩
     clear e1 hg
     go_wp2_with fail
     go_meet
     case rel=>exact ⟨m,ok,y1,rfl,rfl,by omega,HU⟩
   case rest =>
   obtain ⟨m2,ok2,y2,rfl,rfl,hm2,U3⟩:=hcut
   clear U2 hm
   cases ok2 with
   | false =>
    as_aux_lemma =>
    have R:=hid U3.out.rs
    have HNO:Hid (O=none):=hid U3.out.is
    go_upto_region 17 with fail
    have HRG:=hid R.out.range
    have HTH:=hid R.out.there
    obtain ⟨W4,hW4⟩:∃W4,wc.setCells w.heap.size 0 [.int .i64 y2.kind,.string y2.temp,.string y2.ka,.string y2.kb,.int .i64 y2.iff,.slice y2.vp y2.vo.length y2.vc,.slice y2.ep y2.eo.length y2.ec,.slice y2.pp y2.po.length y2.pc,.int .u64 y2.stamp,.int .i64 y2.num]=W4:=⟨_,rfl⟩
    obtain ⟨⟨g0,g1,g2,g3,g4,g5,g6,g7,g8,g9⟩,hown4,hbel4⟩:=R.out.fin W4 hW4
    have HW4:Hid (wc.setCells w.heap.size 0 (#[.int .i64 y2.kind,.string y2.temp,.string y2.ka,.string y2.kb,.int .i64 y2.iff,.slice y2.vp y2.vo.length y2.vc,.slice y2.ep y2.eo.length y2.ec,.slice y2.pp y2.po.length y2.pc,.int .u64 y2.stamp,.int .i64 y2.num]:Array Value).toList=W4):=hid hW4
    have HOW:=hid hown4
    have HBE:=hid hbel4
    clear hown4 hbel4 hW4
    go_wp2_with (first|(refine wpList_load_as rfl 42 _ rfl (w.heap.size+1) 0 rfl [.int .i64 y2.kind,.string y2.temp,.string y2.ka,.string y2.kb,.int .i64 y2.iff,.slice y2.vp y2.vo.length y2.vc,.slice y2.ep y2.eo.length y2.ec,.slice y2.pp y2.po.length y2.pc,.int .u64 y2.stamp,.int .i64 y2.num] _ HRG.out Tryz.underlying42 rfl Tryz.entSize (.agg #[.int .i64 y2.kind,.string y2.temp,.string y2.ka,.string y2.kb,.int .i64 y2.iff,.slice y2.vp y2.vo.length y2.vc,.slice y2.ep y2.eo.length y2.ec,.slice y2.pp y2.po.length y2.pc,.int .u64 y2.stamp,.int .i64 y2.num]) rfl ?_)|(refine wpList_store_as rfl 42 _ _ rfl w.heap.size 0 #[.int .i64 y2.kind,.string y2.temp,.string y2.ka,.string y2.kb,.int .i64 y2.iff,.slice y2.vp y2.vo.length y2.vc,.slice y2.ep y2.eo.length y2.ec,.slice y2.pp y2.po.length y2.pc,.int .u64 y2.stamp,.int .i64 y2.num] rfl rfl HTH.out Tryz.entSize (one_ex y2) W4 HW4.out ?_))
    exact bodyPost_ret (v:=.tuple #[.agg #[.int .i64 y2.kind,.string y2.temp,.string y2.ka,.string y2.kb,.int .i64 y2.iff,.slice y2.vp y2.vo.length y2.vc,.slice y2.ep y2.eo.length y2.ec,.slice y2.pp y2.po.length y2.pc,.int .u64 y2.stamp,.int .i64 y2.num],.bool false]) (by simp [results,Tryz.results19,go_sem,g0,g1,g2,g3,g4,g5,g6,g7,g8,g9]) rfl ⟨⟨y2,false,rfl,fun _=>HOW.out,by rw [HNO.out];rfl⟩,HBE.out⟩
   | true =>
   by_cases hlt:m2<ws.length
   case neg =>
    as_aux_lemma =>
    have hltz:(ws.length:Int)≤(m2:Int):=by omega
    have R:=hid U3.out.rs
    have HNO:Hid (O=none):=hid (by rw [U3.out.is,if_pos rfl];show keyT y2.en _=none;rw [bytes_none (by omega)];rfl)
    go_upto_region 17 with fail
    have HRG:=hid R.out.range
    have HTH:=hid R.out.there
    obtain ⟨W4,hW4⟩:∃W4,wc.setCells w.heap.size 0 [.int .i64 y2.kind,.string y2.temp,.string y2.ka,.string y2.kb,.int .i64 y2.iff,.slice y2.vp y2.vo.length y2.vc,.slice y2.ep y2.eo.length y2.ec,.slice y2.pp y2.po.length y2.pc,.int .u64 y2.stamp,.int .i64 y2.num]=W4:=⟨_,rfl⟩
    obtain ⟨⟨g0,g1,g2,g3,g4,g5,g6,g7,g8,g9⟩,hown4,hbel4⟩:=R.out.fin W4 hW4
    have HW4:Hid (wc.setCells w.heap.size 0 (#[.int .i64 y2.kind,.string y2.temp,.string y2.ka,.string y2.kb,.int .i64 y2.iff,.slice y2.vp y2.vo.length y2.vc,.slice y2.ep y2.eo.length y2.ec,.slice y2.pp y2.po.length y2.pc,.int .u64 y2.stamp,.int .i64 y2.num]:Array Value).toList=W4):=hid hW4
    have HOW:=hid hown4
    have HBE:=hid hbel4
    clear hown4 hbel4 hW4
    go_wp2_with (first|(refine wpList_load_as rfl 42 _ rfl (w.heap.size+1) 0 rfl [.int .i64 y2.kind,.string y2.temp,.string y2.ka,.string y2.kb,.int .i64 y2.iff,.slice y2.vp y2.vo.length y2.vc,.slice y2.ep y2.eo.length y2.ec,.slice y2.pp y2.po.length y2.pc,.int .u64 y2.stamp,.int .i64 y2.num] _ HRG.out Tryz.underlying42 rfl Tryz.entSize (.agg #[.int .i64 y2.kind,.string y2.temp,.string y2.ka,.string y2.kb,.int .i64 y2.iff,.slice y2.vp y2.vo.length y2.vc,.slice y2.ep y2.eo.length y2.ec,.slice y2.pp y2.po.length y2.pc,.int .u64 y2.stamp,.int .i64 y2.num]) rfl ?_)|(refine wpList_store_as rfl 42 _ _ rfl w.heap.size 0 #[.int .i64 y2.kind,.string y2.temp,.string y2.ka,.string y2.kb,.int .i64 y2.iff,.slice y2.vp y2.vo.length y2.vc,.slice y2.ep y2.eo.length y2.ec,.slice y2.pp y2.po.length y2.pc,.int .u64 y2.stamp,.int .i64 y2.num] rfl rfl HTH.out Tryz.entSize (one_ex y2) W4 HW4.out ?_))
    exact bodyPost_ret (v:=.tuple #[.agg #[.int .i64 y2.kind,.string y2.temp,.string y2.ka,.string y2.kb,.int .i64 y2.iff,.slice y2.vp y2.vo.length y2.vc,.slice y2.ep y2.eo.length y2.ec,.slice y2.pp y2.po.length y2.pc,.int .u64 y2.stamp,.int .i64 y2.num],.bool false]) (by simp [results,Tryz.results19,go_sem,g0,g1,g2,g3,g4,g5,g6,g7,g8,g9]) rfl ⟨⟨y2,false,rfl,fun _=>HOW.out,by rw [HNO.out];rfl⟩,HBE.out⟩
   have hltz:¬ (ws.length:Int)≤(m2:Int):=by omega
   have hltz2:(m2:Int)<(ws.length:Int):=by omega
   have hmz:(0:Int)≤(m2:Int):=by omega
   obtain ⟨x2,hx2⟩:∃x2,ws[m2]? = some x2:=⟨_,List.getElem?_eq_getElem hlt⟩
   have HSZ2:=hid (HS.out x2 (List.mem_of_getElem? hx2))
   have HK3:Hid (O=keyT y2.en (x2.data.toList::bytesL (ws.drop (m2+1)))):=hid (by rw [U3.out.is,if_pos rfl];show keyT y2.en _=_;rw [bytes_drop hx2])
   have cx2:=HTX.out wc m2 x2 hx2 U3.out.rs.bel
   have c0:wc.cell? ⟨w.heap.size+1,0,none⟩=some (.int .i64 (kn:Int)):=by rw [U3.out.rs.cells.1,U3.out.bare.kind]
   clear hx2
   have HB:=hid U3.out.bare
   have R:=hid U3.out.rs
   go_upto_region 18 with fail
   go_cut [104] from 14 (fun v104 wx=>v104=.bool (typedK (kn:Int))∧wc=wx)
   case first =>
    as_aux_lemma =>
    by_cases k8:kn=8
    ·subst k8
     go_wp2_with fail
     go_meet
     case rel=>exact ⟨rfl,rfl⟩
    have b8:((kn:Int)==8)=false:=by rw [beq_eq_false_iff_ne];omega
    by_cases k10:kn=10
    ·subst k10
     clear b8
     go_wp2_with fail
     go_meet
     case rel=>exact ⟨rfl,rfl⟩
    have b10:((kn:Int)==10)=false:=by rw [beq_eq_false_iff_ne];omega
    by_cases k12:kn=12
    ·subst k12
     clear b8 b10
     go_wp2_with fail
     go_meet
     case rel=>exact ⟨rfl,rfl⟩
    have b12:((kn:Int)==12)=false:=by rw [beq_eq_false_iff_ne];omega
    have E:Hid (typedK (kn:Int)=false):=hid (by unfold typedK;rw [decide_eq_false (by omega),decide_eq_false (by omega),decide_eq_false (by omega)];rfl)
    go_wp2_with fail
    go_meet
    case rel=>exact ⟨by rw [E.out],rfl⟩
   case rest =>
   obtain ⟨rfl,rfl⟩:=hcut
   go_upto_if 104 with fail
   go_cut [8,9] from 14 (fun _ _ wx=>∃y3,Hid (RsSt w (w.heap.size+1) w.heap.size wx y3)∧Hid (Bare y3 kn)∧Hid (O=tailR y3.en (bytesL (ws.drop (m2+1)))))
   case first =>
    as_aux_lemma =>
    cases ht:typedK (kn:Int) with
    | true =>
     have HKT:Hid (O=tailR { y2.en with ka:=⟨x2.data.toList.toArray⟩ } (bytesL (ws.drop (m2+1)))):=hid (by
      have hk:y2.en.kind=(kn:Int):=HB.out.kind
      rw [HK3.out,kyt_typed (by rw [hk];exact ht)])
     clear ht c0
     have f1:=R.out.open 2
     have z1:wc.cell? ⟨w.heap.size+1,2,none⟩=some (.string y2.ka):=by rw [Lib.cell_of_heap R.out.box];rfl
     obtain ⟨y3,hzz⟩:∃q:Ex,q={ y2 with ka:=x2 }:=⟨_,rfl⟩
     have hbr:Bare y3 kn:=by rw [hzz];exact (by
       have h:=HB.out.keys x2 y2.kb (by have:=HSZ2.out;unfold maxLen;omega) HB.out.rng.kb
       exact h)
     obtain ⟨W5,hW5⟩:∃W',wc.setCell ⟨w.heap.size+1,2,none⟩ (.string x2)=W':=⟨_,rfl⟩
     have R5:Hid (RsSt w (w.heap.size+1) w.heap.size W5 y3):=hid (by
      rw [←hW5]
      exact R.out.turn 2 _ (hbr.own _ _) (by rw [hzz];rfl))
     have HB5:=hid hbr
     have HZZ:=hid hzz
     clear hbr hzz
     have HT5:Hid (O=tailR y3.en (bytesL (ws.drop (m2+1)))):=hid (by
      rw [HKT.out,HZZ.out]
      have:(⟨x2.data.toList.toArray⟩:ByteArray)=x2:=ba_of x2
      rw [this];rfl)
     go_wp2_with fail
     try rw [hW5]
     go_meet
     case rel=>exact ⟨y3,R5,HB5,HT5⟩
    | false =>
     have HKT:Hid (O=(keyR x2.data.toList).bind fun k=>tailR { y2.en with ka:=k.1,kb:=k.2 } (bytesL (ws.drop (m2+1)))):=hid (by
      have hk:y2.en.kind=(kn:Int):=HB.out.kind
      rw [HK3.out,kyt_plain (by rw [hk];exact ht)])
     have HPK:=hid (rkeyp16_any x2 wc (by have:=HSZ2.out;unfold maxLen;omega))
     clear ht c0
     go_wp2_with fail
     refine HPK.out.mono ?_
     rintro e w7 ⟨⟨ka,kb,kc,rfl,hkc⟩,hb7⟩
     have hb8:Below wc.heap.size wc (w7.alloc (.cells #[.string ka,.string kb] 36)):=hb7.alloc hb7.size _
     have R8:=hid (R.out.on hb8)
     obtain ⟨G,hG⟩:∃G,w7.heap.size=G:=⟨_,rfl⟩
     obtain ⟨W8,hW8⟩:∃W8,w7.alloc (.cells #[.string ka,.string kb] 36)=W8:=⟨_,rfl⟩
     rw [hW8] at R8
     have hk8:W8.heap[G]? = some (.cells #[.string ka,.string kb] 36 (0,0)):=by rw [←hW8,←hG];exact heap_alloc_new w7 _
     obtain ⟨ky0,ky1,_,_⟩:=two_facts hk8
     clear hb7 hb8 hk8 HPK cx2
     rcases hkc with ⟨rfl,hkr⟩|⟨rfl,hkr⟩
     case inr =>
      as_aux_lemma =>
      have HNO:Hid (O=none):=hid (by rw [HKT.out,hkr];rfl)
      clear hkr
      go_upto_region 22 with fail
      try rw [hW8]
      clear hW8
      have HRG:=hid R8.out.range
      have HTH:=hid R8.out.there
      obtain ⟨W4,hW4⟩:∃W4,W8.setCells w.heap.size 0 [.int .i64 y2.kind,.string y2.temp,.string y2.ka,.string y2.kb,.int .i64 y2.iff,.slice y2.vp y2.vo.length y2.vc,.slice y2.ep y2.eo.length y2.ec,.slice y2.pp y2.po.length y2.pc,.int .u64 y2.stamp,.int .i64 y2.num]=W4:=⟨_,rfl⟩
      obtain ⟨⟨g0,g1,g2,g3,g4,g5,g6,g7,g8,g9⟩,hown4,hbel4⟩:=R8.out.fin W4 hW4
      have HW4:Hid (W8.setCells w.heap.size 0 (#[.int .i64 y2.kind,.string y2.temp,.string y2.ka,.string y2.kb,.int .i64 y2.iff,.slice y2.vp y2.vo.length y2.vc,.slice y2.ep y2.eo.length y2.ec,.slice y2.pp y2.po.length y2.pc,.int .u64 y2.stamp,.int .i64 y2.num]:Array Value).toList=W4):=hid hW4
      have HOW:=hid hown4
      have HBE:=hid hbel4
      clear hown4 hbel4 hW4
      go_wp2_with (first|(refine wpList_load_as rfl 42 _ rfl (w.heap.size+1) 0 rfl [.int .i64 y2.kind,.string y2.temp,.string y2.ka,.string y2.kb,.int .i64 y2.iff,.slice y2.vp y2.vo.length y2.vc,.slice y2.ep y2.eo.length y2.ec,.slice y2.pp y2.po.length y2.pc,.int .u64 y2.stamp,.int .i64 y2.num] _ HRG.out Tryz.underlying42 rfl Tryz.entSize (.agg #[.int .i64 y2.kind,.string y2.temp,.string y2.ka,.string y2.kb,.int .i64 y2.iff,.slice y2.vp y2.vo.length y2.vc,.slice y2.ep y2.eo.length y2.ec,.slice y2.pp y2.po.length y2.pc,.int .u64 y2.stamp,.int .i64 y2.num]) rfl ?_)|(refine wpList_store_as rfl 42 _ _ rfl w.heap.size 0 #[.int .i64 y2.kind,.string y2.temp,.string y2.ka,.string y2.kb,.int .i64 y2.iff,.slice y2.vp y2.vo.length y2.vc,.slice y2.ep y2.eo.length y2.ec,.slice y2.pp y2.po.length y2.pc,.int .u64 y2.stamp,.int .i64 y2.num] rfl rfl HTH.out Tryz.entSize (one_ex y2) W4 HW4.out ?_))
      exact bodyPost_ret (v:=.tuple #[.agg #[.int .i64 y2.kind,.string y2.temp,.string y2.ka,.string y2.kb,.int .i64 y2.iff,.slice y2.vp y2.vo.length y2.vc,.slice y2.ep y2.eo.length y2.ec,.slice y2.pp y2.po.length y2.pc,.int .u64 y2.stamp,.int .i64 y2.num],.bool false]) (by simp [results,Tryz.results19,go_sem,g0,g1,g2,g3,g4,g5,g6,g7,g8,g9]) rfl ⟨⟨y2,false,rfl,fun _=>HOW.out,by rw [HNO.out];rfl⟩,HBE.out⟩
     have HT8:Hid (O=tailR { y2.en with ka:=ka,kb:=kb } (bytesL (ws.drop (m2+1)))):=hid (by rw [HKT.out,hkr];rfl)
     have hks:ka.size≤32∧kb.size≤32:=keyB_sizes (keyR_key hkr)
     have f1:=R8.out.open 2
     have f2:=R8.out.open 3
     have z1:W8.cell? ⟨w.heap.size+1,2,none⟩=some (.string y2.ka):=by rw [Lib.cell_of_heap R8.out.box];rfl
     have z2:W8.cell? ⟨w.heap.size+1,3,none⟩=some (.string y2.kb):=by rw [Lib.cell_of_heap R8.out.box];rfl
     obtain ⟨y3,hzz⟩:∃q:Ex,q={ y2 with ka:=ka,kb:=kb }:=⟨_,rfl⟩
     have hbr:Bare y3 kn:=by rw [hzz];exact HB.out.keys ka kb (by unfold maxLen;omega) (by unfold maxLen;omega)
     obtain ⟨W5,hW5⟩:∃W',(W8.setCell ⟨w.heap.size+1,2,none⟩ (.string ka)).setCell ⟨w.heap.size+1,3,none⟩ (.string kb)=W':=⟨_,rfl⟩
     have R5:Hid (RsSt w (w.heap.size+1) w.heap.size W5 y3):=hid (by
      rw [←hW5]
      have hb1:Bare { y2 with ka:=ka } kn:=HB.out.keys ka y2.kb (by unfold maxLen;omega) HB.out.rng.kb
      have h1:=R8.out.turn (z:={ y2 with ka:=ka }) 2 (.string ka) (hb1.own _ _) rfl
      exact h1.turn (z:=y3) 3 (.string kb) (hbr.own _ _) (by rw [hzz];rfl))
     have HB5:=hid hbr
     have HT5:Hid (O=tailR y3.en (bytesL (ws.drop (m2+1)))):=hid (by rw [HT8.out,hzz];rfl)
     clear hbr hzz hkr hks
     go_wp2_with fail
     try rw [hW8]
     try rw [hW5]
     go_meet
     case rel=>exact ⟨y3,R5,HB5,HT5⟩
   case rest =>
   obtain ⟨y3,R5,HB5,HT5⟩:=hcut
   clear c0 cx2 U3 HK3 HB R
   obtain ⟨W5,hwc⟩:∃W5,wc=W5:=⟨_,rfl⟩
   rw [hwc] at R5 ⊢
   clear hwc
   have c0:W5.cell? ⟨w.heap.size+1,0,none⟩=some (.int .i64 (kn:Int)):=by rw [R5.out.cells.1,HB5.out.kind]
   go_upto_block 2 with fail
   go_cut [7,10,11] from 14 (fun _ _ _ wx=>W5=wx∧kn≠7∧kn≠9∧kn≠10∧kn≠6∧kn≠11)
   case first =>
    clear c0
    by_cases h7:kn=7
    ·as_aux_lemma =>
     have b7:((kn:Int)==7)=true:=by rw [beq_iff_eq];omega
     have HTL:Hid (O=if (bytesL (ws.drop (m2+1))).length=1 then (smallR (bytesL (ws.drop (m2+1)))[0]?).bind fun n=>some { y3.en with num:=(n:Int) } else none):=hid (by
      have hk:y3.en.kind=(kn:Int):=HB5.out.kind
      rw [HT5.out,tlr_num (by omega)])
     have HSM:Hid (Calls Tryz.prog 42 #[.slice (some ⟨b,off,none⟩) ws.length cap,.int .i64 ((m2:Int)+1)] W5 fun e w'=>e=.returned (numV (smallR ((ws.map (·.data.toList))[m2+1]?)))∧w'=W5):=hid (rsmall16_any (some ⟨b,off,none⟩) cap ws (m2+1) W5 (HTV.out _ R5.out.bel) HS.out (by omega))
     obtain ⟨so,hso⟩:∃so,smallR ((ws.map (·.data.toList))[m2+1]?)=so:=⟨_,rfl⟩
     have hsl:((so.getD 0:Nat):Int)≤999999999:=by
      cases so with
      | none=>show (0:Int)≤_;decide
      | some n=>have:=smallR_le hso;show (n:Int)≤_;omega
     rw [bytes_at,bytes_len,hso] at HTL
     rw [hso] at HSM
     unfold numV at HSM
     obtain ⟨sn,hsn⟩:∃sn:Nat,so.getD 0=sn:=⟨_,rfl⟩
     rw [hsn] at HSM hsl
     have HSN:=hid hsn
     clear hsn hso
     have f1:=R5.out.open 9
     have z1:W5.cell? ⟨w.heap.size+1,9,none⟩=some (.int .i64 y3.num):=by rw [Lib.cell_of_heap R5.out.box];rfl
     obtain ⟨y4,hzz⟩:∃q:Ex,q={ y3 with num:=(sn:Int) }:=⟨_,rfl⟩
     have hbr:Bare y4 kn:=by rw [hzz];exact HB5.out.num _ (by omega) hsl
     obtain ⟨W6,hW6⟩:∃W',W5.setCell ⟨w.heap.size+1,9,none⟩ (.int .i64 (sn:Int))=W':=⟨_,rfl⟩
     have R6:Hid (RsSt w (w.heap.size+1) w.heap.size W6 y4):=hid (by
      rw [←hW6]
      exact R5.out.turn 9 _ (hbr.own _ _) (by rw [hzz];rfl))
     have HB6:=hid hbr
     have HZZ:=hid hzz
     clear hbr hzz
     obtain ⟨ok,hok⟩:∃ok,(so.isSome&&decide (m2+1=ws.length-1))=ok:=⟨_,rfl⟩
     have HFI:Hid (O=if ok=true then some y4.en else none):=hid (by
      rw [HTL.out,HZZ.out,←hok]
      cases so with
      | none=>split<;>rfl
      | some n =>
       have hn:n=sn:=HSN.out
       by_cases hq:m2+1=ws.length-1
       ·rw [if_pos (by omega),hn,decide_eq_true hq];rfl
       ·rw [if_neg (by omega),decide_eq_false hq];rfl)
     have hqz:((m2:Int)+1==(ws.length:Int)-1)=decide (m2+1=ws.length-1):=by
      by_cases hq:m2+1=ws.length-1
      ·rw [decide_eq_true hq,beq_iff_eq];omega
      ·rw [decide_eq_false hq,beq_eq_false_iff_ne];omega
     have HOK:=hid hok
     clear hok
     go_wp2_with fail
     refine HSM.out.mono ?_
     rintro e w7 ⟨rfl,rfl⟩
     cases hso:so.isSome with
     | false =>
      have HO2:Hid (false=ok):=hid (by rw [←HOK.out,hso];rfl)
      clear hqz
      go_upto_region 29 with fail
      try rw [hW6]
      clear hW6 f1 z1
      have HRG:=hid R6.out.range
      have HTH:=hid R6.out.there
      obtain ⟨W4,hW4⟩:∃W4,W6.setCells w.heap.size 0 [.int .i64 y4.kind,.string y4.temp,.string y4.ka,.string y4.kb,.int .i64 y4.iff,.slice y4.vp y4.vo.length y4.vc,.slice y4.ep y4.eo.length y4.ec,.slice y4.pp y4.po.length y4.pc,.int .u64 y4.stamp,.int .i64 y4.num]=W4:=⟨_,rfl⟩
      obtain ⟨⟨g0,g1,g2,g3,g4,g5,g6,g7,g8,g9⟩,hown4,hbel4⟩:=R6.out.fin W4 hW4
      have HW4:Hid (W6.setCells w.heap.size 0 (#[.int .i64 y4.kind,.string y4.temp,.string y4.ka,.string y4.kb,.int .i64 y4.iff,.slice y4.vp y4.vo.length y4.vc,.slice y4.ep y4.eo.length y4.ec,.slice y4.pp y4.po.length y4.pc,.int .u64 y4.stamp,.int .i64 y4.num]:Array Value).toList=W4):=hid hW4
      have HOW:=hid hown4
      have HBE:=hid hbel4
      clear hown4 hbel4 hW4
      go_wp2_with (first|(refine wpList_load_as rfl 42 _ rfl (w.heap.size+1) 0 rfl [.int .i64 y4.kind,.string y4.temp,.string y4.ka,.string y4.kb,.int .i64 y4.iff,.slice y4.vp y4.vo.length y4.vc,.slice y4.ep y4.eo.length y4.ec,.slice y4.pp y4.po.length y4.pc,.int .u64 y4.stamp,.int .i64 y4.num] _ HRG.out Tryz.underlying42 rfl Tryz.entSize (.agg #[.int .i64 y4.kind,.string y4.temp,.string y4.ka,.string y4.kb,.int .i64 y4.iff,.slice y4.vp y4.vo.length y4.vc,.slice y4.ep y4.eo.length y4.ec,.slice y4.pp y4.po.length y4.pc,.int .u64 y4.stamp,.int .i64 y4.num]) rfl ?_)|(refine wpList_store_as rfl 42 _ _ rfl w.heap.size 0 #[.int .i64 y4.kind,.string y4.temp,.string y4.ka,.string y4.kb,.int .i64 y4.iff,.slice y4.vp y4.vo.length y4.vc,.slice y4.ep y4.eo.length y4.ec,.slice y4.pp y4.po.length y4.pc,.int .u64 y4.stamp,.int .i64 y4.num] rfl rfl HTH.out Tryz.entSize (one_ex y4) W4 HW4.out ?_))
      exact bodyPost_ret (v:=.tuple #[.agg #[.int .i64 y4.kind,.string y4.temp,.string y4.ka,.string y4.kb,.int .i64 y4.iff,.slice y4.vp y4.vo.length y4.vc,.slice y4.ep y4.eo.length y4.ec,.slice y4.pp y4.po.length y4.pc,.int .u64 y4.stamp,.int .i64 y4.num],.bool false]) (by simp [results,Tryz.results19,go_sem,g0,g1,g2,g3,g4,g5,g6,g7,g8,g9]) rfl ⟨⟨y4,false,rfl,fun _=>HOW.out,by rw [HO2.out];exact HFI.out⟩,HBE.out⟩
     | true =>
      have HO2:Hid (decide (m2+1=ws.length-1)=ok):=hid (by rw [←HOK.out,hso];rfl)
      go_upto_region 29 with fail
      try rw [hW6]
      clear hW6 f1 z1
      have HRG:=hid R6.out.range
      have HTH:=hid R6.out.there
      obtain ⟨W4,hW4⟩:∃W4,W6.setCells w.heap.size 0 [.int .i64 y4.kind,.string y4.temp,.string y4.ka,.string y4.kb,.int .i64 y4.iff,.slice y4.vp y4.vo.length y4.vc,.slice y4.ep y4.eo.length y4.ec,.slice y4.pp y4.po.length y4.pc,.int .u64 y4.stamp,.int .i64 y4.num]=W4:=⟨_,rfl⟩
      obtain ⟨⟨g0,g1,g2,g3,g4,g5,g6,g7,g8,g9⟩,hown4,hbel4⟩:=R6.out.fin W4 hW4
      have HW4:Hid (W6.setCells w.heap.size 0 (#[.int .i64 y4.kind,.string y4.temp,.string y4.ka,.string y4.kb,.int .i64 y4.iff,.slice y4.vp y4.vo.length y4.vc,.slice y4.ep y4.eo.length y4.ec,.slice y4.pp y4.po.length y4.pc,.int .u64 y4.stamp,.int .i64 y4.num]:Array Value).toList=W4):=hid hW4
      have HOW:=hid hown4
      have HBE:=hid hbel4
      clear hown4 hbel4 hW4
      go_wp2_with (first|(refine wpList_load_as rfl 42 _ rfl (w.heap.size+1) 0 rfl [.int .i64 y4.kind,.string y4.temp,.string y4.ka,.string y4.kb,.int .i64 y4.iff,.slice y4.vp y4.vo.length y4.vc,.slice y4.ep y4.eo.length y4.ec,.slice y4.pp y4.po.length y4.pc,.int .u64 y4.stamp,.int .i64 y4.num] _ HRG.out Tryz.underlying42 rfl Tryz.entSize (.agg #[.int .i64 y4.kind,.string y4.temp,.string y4.ka,.string y4.kb,.int .i64 y4.iff,.slice y4.vp y4.vo.length y4.vc,.slice y4.ep y4.eo.length y4.ec,.slice y4.pp y4.po.length y4.pc,.int .u64 y4.stamp,.int .i64 y4.num]) rfl ?_)|(refine wpList_store_as rfl 42 _ _ rfl w.heap.size 0 #[.int .i64 y4.kind,.string y4.temp,.string y4.ka,.string y4.kb,.int .i64 y4.iff,.slice y4.vp y4.vo.length y4.vc,.slice y4.ep y4.eo.length y4.ec,.slice y4.pp y4.po.length y4.pc,.int .u64 y4.stamp,.int .i64 y4.num] rfl rfl HTH.out Tryz.entSize (one_ex y4) W4 HW4.out ?_))
      exact bodyPost_ret (v:=.tuple #[.agg #[.int .i64 y4.kind,.string y4.temp,.string y4.ka,.string y4.kb,.int .i64 y4.iff,.slice y4.vp y4.vo.length y4.vc,.slice y4.ep y4.eo.length y4.ec,.slice y4.pp y4.po.length y4.pc,.int .u64 y4.stamp,.int .i64 y4.num],.bool (decide (m2+1=ws.length-1))]) (by simp [results,Tryz.results19,go_sem,g0,g1,g2,g3,g4,g5,g6,g7,g8,g9]) rfl ⟨⟨y4,(decide (m2+1=ws.length-1)),rfl,fun _=>HOW.out,by rw [HO2.out];exact HFI.out⟩,HBE.out⟩
    have b7:((kn:Int)==7)=false:=by rw [beq_eq_false_iff_ne];omega
    by_cases h9:kn=9∨kn=10
    ·as_aux_lemma =>
     go_upto_if 148 with fail
     go_cut [148] from 14 (fun v148 wx=>v148=.bool true∧W5=wx)
     case first =>
      rcases h9 with h|h
      ·have b9:((kn:Int)==9)=true:=by rw [beq_iff_eq];omega
       rw [b9]
       go_wp2_with fail
       go_meet
       case rel=>exact ⟨rfl,rfl⟩
      ·have b9:((kn:Int)==9)=false:=by rw [beq_eq_false_iff_ne];omega
       have b10:((kn:Int)==10)=true:=by rw [beq_iff_eq];omega
       rw [b9]
       go_wp2_with fail
       go_meet
       case rel=>exact ⟨by first|rfl|rw [b10],rfl⟩
     case rest =>
     obtain ⟨rfl,rfl⟩:=hcut
     have HTL:Hid (O=if (bytesL (ws.drop (m2+1))).length=1 then (stampR (bytesL (ws.drop (m2+1)))[0]?).bind fun n=>some { y3.en with stamp:=(n:Int) } else none):=hid (by
      have hk:y3.en.kind=(kn:Int):=HB5.out.kind
      rw [HT5.out,tlr_stamp (by omega)])
     have HSM:Hid (Calls Tryz.prog 40 #[.slice (some ⟨b,off,none⟩) ws.length cap,.int .i64 ((m2:Int)+1)] W5 fun e w'=>e=.returned (numV (stampR ((ws.map (·.data.toList))[m2+1]?)))∧w'=W5):=hid (rstamp16_any (some ⟨b,off,none⟩) cap ws (m2+1) W5 (HTV.out _ R5.out.bel) HS.out (by omega))
     obtain ⟨so,hso⟩:∃so,stampR ((ws.map (·.data.toList))[m2+1]?)=so:=⟨_,rfl⟩
     have hsl:((so.getD 0:Nat):Int)≤18446744073709551615:=by
      cases so with
      | none=>show (0:Int)≤_;decide
      | some n=>have:=stampR_le hso;show (n:Int)≤_;omega
     rw [bytes_at,bytes_len,hso] at HTL
     rw [hso] at HSM
     unfold numV at HSM
     obtain ⟨sn,hsn⟩:∃sn:Nat,so.getD 0=sn:=⟨_,rfl⟩
     rw [hsn] at HSM hsl
     have HSN:=hid hsn
     clear hsn hso
     have f1:=R5.out.open 8
     have z1:W5.cell? ⟨w.heap.size+1,8,none⟩=some (.int .u64 y3.stamp):=by rw [Lib.cell_of_heap R5.out.box];rfl
     obtain ⟨y4,hzz⟩:∃q:Ex,q={ y3 with stamp:=(sn:Int) }:=⟨_,rfl⟩
     have hbr:Bare y4 kn:=by rw [hzz];exact HB5.out.stamp _ (by omega) hsl
     obtain ⟨W6,hW6⟩:∃W',W5.setCell ⟨w.heap.size+1,8,none⟩ (.int .u64 (sn:Int))=W':=⟨_,rfl⟩
     have R6:Hid (RsSt w (w.heap.size+1) w.heap.size W6 y4):=hid (by
      rw [←hW6]
      exact R5.out.turn 8 _ (hbr.own _ _) (by rw [hzz];rfl))
     have HB6:=hid hbr
     have HZZ:=hid hzz
     clear hbr hzz
     obtain ⟨ok,hok⟩:∃ok,(so.isSome&&decide (m2+1=ws.length-1))=ok:=⟨_,rfl⟩
     have HFI:Hid (O=if ok=true then some y4.en else none):=hid (by
      rw [HTL.out,HZZ.out,←hok]
      cases so with
      | none=>split<;>rfl
      | some n =>
       have hn:n=sn:=HSN.out
       by_cases hq:m2+1=ws.length-1
       ·rw [if_pos (by omega),hn,decide_eq_true hq];rfl
       ·rw [if_neg (by omega),decide_eq_false hq];rfl)
     have hqz:((m2:Int)+1==(ws.length:Int)-1)=decide (m2+1=ws.length-1):=by
      by_cases hq:m2+1=ws.length-1
      ·rw [decide_eq_true hq,beq_iff_eq];omega
      ·rw [decide_eq_false hq,beq_eq_false_iff_ne];omega
     have HOK:=hid hok
     clear hok
     go_wp2_with fail
     refine HSM.out.mono ?_
     rintro e w7 ⟨rfl,rfl⟩
     cases hso:so.isSome with
     | false =>
      have HO2:Hid (false=ok):=hid (by rw [←HOK.out,hso];rfl)
      clear hqz
      go_upto_region 33 with fail
      try rw [hW6]
      clear hW6 f1 z1
      have HRG:=hid R6.out.range
      have HTH:=hid R6.out.there
      obtain ⟨W4,hW4⟩:∃W4,W6.setCells w.heap.size 0 [.int .i64 y4.kind,.string y4.temp,.string y4.ka,.string y4.kb,.int .i64 y4.iff,.slice y4.vp y4.vo.length y4.vc,.slice y4.ep y4.eo.length y4.ec,.slice y4.pp y4.po.length y4.pc,.int .u64 y4.stamp,.int .i64 y4.num]=W4:=⟨_,rfl⟩
      obtain ⟨⟨g0,g1,g2,g3,g4,g5,g6,g7,g8,g9⟩,hown4,hbel4⟩:=R6.out.fin W4 hW4
      have HW4:Hid (W6.setCells w.heap.size 0 (#[.int .i64 y4.kind,.string y4.temp,.string y4.ka,.string y4.kb,.int .i64 y4.iff,.slice y4.vp y4.vo.length y4.vc,.slice y4.ep y4.eo.length y4.ec,.slice y4.pp y4.po.length y4.pc,.int .u64 y4.stamp,.int .i64 y4.num]:Array Value).toList=W4):=hid hW4
      have HOW:=hid hown4
      have HBE:=hid hbel4
      clear hown4 hbel4 hW4
      go_wp2_with (first|(refine wpList_load_as rfl 42 _ rfl (w.heap.size+1) 0 rfl [.int .i64 y4.kind,.string y4.temp,.string y4.ka,.string y4.kb,.int .i64 y4.iff,.slice y4.vp y4.vo.length y4.vc,.slice y4.ep y4.eo.length y4.ec,.slice y4.pp y4.po.length y4.pc,.int .u64 y4.stamp,.int .i64 y4.num] _ HRG.out Tryz.underlying42 rfl Tryz.entSize (.agg #[.int .i64 y4.kind,.string y4.temp,.string y4.ka,.string y4.kb,.int .i64 y4.iff,.slice y4.vp y4.vo.length y4.vc,.slice y4.ep y4.eo.length y4.ec,.slice y4.pp y4.po.length y4.pc,.int .u64 y4.stamp,.int .i64 y4.num]) rfl ?_)|(refine wpList_store_as rfl 42 _ _ rfl w.heap.size 0 #[.int .i64 y4.kind,.string y4.temp,.string y4.ka,.string y4.kb,.int .i64 y4.iff,.slice y4.vp y4.vo.length y4.vc,.slice y4.ep y4.eo.length y4.ec,.slice y4.pp y4.po.length y4.pc,.int .u64 y4.stamp,.int .i64 y4.num] rfl rfl HTH.out Tryz.entSize (one_ex y4) W4 HW4.out ?_))
      exact bodyPost_ret (v:=.tuple #[.agg #[.int .i64 y4.kind,.string y4.temp,.string y4.ka,.string y4.kb,.int .i64 y4.iff,.slice y4.vp y4.vo.length y4.vc,.slice y4.ep y4.eo.length y4.ec,.slice y4.pp y4.po.length y4.pc,.int .u64 y4.stamp,.int .i64 y4.num],.bool false]) (by simp [results,Tryz.results19,go_sem,g0,g1,g2,g3,g4,g5,g6,g7,g8,g9]) rfl ⟨⟨y4,false,rfl,fun _=>HOW.out,by rw [HO2.out];exact HFI.out⟩,HBE.out⟩
     | true =>
      have HO2:Hid (decide (m2+1=ws.length-1)=ok):=hid (by rw [←HOK.out,hso];rfl)
      go_upto_region 33 with fail
      try rw [hW6]
      clear hW6 f1 z1
      have HRG:=hid R6.out.range
      have HTH:=hid R6.out.there
      obtain ⟨W4,hW4⟩:∃W4,W6.setCells w.heap.size 0 [.int .i64 y4.kind,.string y4.temp,.string y4.ka,.string y4.kb,.int .i64 y4.iff,.slice y4.vp y4.vo.length y4.vc,.slice y4.ep y4.eo.length y4.ec,.slice y4.pp y4.po.length y4.pc,.int .u64 y4.stamp,.int .i64 y4.num]=W4:=⟨_,rfl⟩
      obtain ⟨⟨g0,g1,g2,g3,g4,g5,g6,g7,g8,g9⟩,hown4,hbel4⟩:=R6.out.fin W4 hW4
      have HW4:Hid (W6.setCells w.heap.size 0 (#[.int .i64 y4.kind,.string y4.temp,.string y4.ka,.string y4.kb,.int .i64 y4.iff,.slice y4.vp y4.vo.length y4.vc,.slice y4.ep y4.eo.length y4.ec,.slice y4.pp y4.po.length y4.pc,.int .u64 y4.stamp,.int .i64 y4.num]:Array Value).toList=W4):=hid hW4
      have HOW:=hid hown4
      have HBE:=hid hbel4
      clear hown4 hbel4 hW4
      go_wp2_with (first|(refine wpList_load_as rfl 42 _ rfl (w.heap.size+1) 0 rfl [.int .i64 y4.kind,.string y4.temp,.string y4.ka,.string y4.kb,.int .i64 y4.iff,.slice y4.vp y4.vo.length y4.vc,.slice y4.ep y4.eo.length y4.ec,.slice y4.pp y4.po.length y4.pc,.int .u64 y4.stamp,.int .i64 y4.num] _ HRG.out Tryz.underlying42 rfl Tryz.entSize (.agg #[.int .i64 y4.kind,.string y4.temp,.string y4.ka,.string y4.kb,.int .i64 y4.iff,.slice y4.vp y4.vo.length y4.vc,.slice y4.ep y4.eo.length y4.ec,.slice y4.pp y4.po.length y4.pc,.int .u64 y4.stamp,.int .i64 y4.num]) rfl ?_)|(refine wpList_store_as rfl 42 _ _ rfl w.heap.size 0 #[.int .i64 y4.kind,.string y4.temp,.string y4.ka,.string y4.kb,.int .i64 y4.iff,.slice y4.vp y4.vo.length y4.vc,.slice y4.ep y4.eo.length y4.ec,.slice y4.pp y4.po.length y4.pc,.int .u64 y4.stamp,.int .i64 y4.num] rfl rfl HTH.out Tryz.entSize (one_ex y4) W4 HW4.out ?_))
      exact bodyPost_ret (v:=.tuple #[.agg #[.int .i64 y4.kind,.string y4.temp,.string y4.ka,.string y4.kb,.int .i64 y4.iff,.slice y4.vp y4.vo.length y4.vc,.slice y4.ep y4.eo.length y4.ec,.slice y4.pp y4.po.length y4.pc,.int .u64 y4.stamp,.int .i64 y4.num],.bool (decide (m2+1=ws.length-1))]) (by simp [results,Tryz.results19,go_sem,g0,g1,g2,g3,g4,g5,g6,g7,g8,g9]) rfl ⟨⟨y4,(decide (m2+1=ws.length-1)),rfl,fun _=>HOW.out,by rw [HO2.out];exact HFI.out⟩,HBE.out⟩
    have b9:((kn:Int)==9)=false:=by rw [beq_eq_false_iff_ne];omega
    have b10:((kn:Int)==10)=false:=by rw [beq_eq_false_iff_ne];omega
    by_cases h6:kn=6∨kn=11
    ·as_aux_lemma =>
     go_upto_if 167 with fail
     go_cut [167] from 14 (fun v167 wx=>v167=.bool true∧W5=wx)
     case first =>
      rcases h6 with h|h
      ·have b6:((kn:Int)==6)=true:=by rw [beq_iff_eq];omega
       rw [b6]
       go_wp2_with fail
       go_meet
       case rel=>exact ⟨rfl,rfl⟩
      ·have b6:((kn:Int)==6)=false:=by rw [beq_eq_false_iff_ne];omega
       have b11:((kn:Int)==11)=true:=by rw [beq_iff_eq];omega
       rw [b6]
       go_wp2_with fail
       go_meet
       case rel=>exact ⟨by first|rfl|rw [b11],rfl⟩
     case rest =>
     obtain ⟨rfl,rfl⟩:=hcut
     have HTL:Hid (O=if bytesL (ws.drop (m2+1))=[] then some y3.en else none):=hid (by
      have hk:y3.en.kind=(kn:Int):=HB5.out.kind
      rw [HT5.out,tlr_plain (by omega)])
     have HFI:Hid (O=if decide (m2+1=ws.length)=true then some y3.en else none):=hid (by
      rw [HTL.out]
      by_cases hq:m2+1=ws.length
      ·rw [if_pos (bytes_none (by omega)),if_pos (decide_eq_true hq)]
      ·rw [if_neg,if_neg (by rw [decide_eq_false hq];decide)]
       intro q
       have:=congrArg List.length q
       rw [bytes_len] at this
       simp at this
       omega)
     have hqz:((m2:Int)+1==(ws.length:Int))=decide (m2+1=ws.length):=by
      by_cases hq:m2+1=ws.length
      ·rw [decide_eq_true hq,beq_iff_eq];omega
      ·rw [decide_eq_false hq,beq_eq_false_iff_ne];omega
     go_upto_region 36 with fail
     have HRG:=hid R5.out.range
     have HTH:=hid R5.out.there
     obtain ⟨W4,hW4⟩:∃W4,W5.setCells w.heap.size 0 [.int .i64 y3.kind,.string y3.temp,.string y3.ka,.string y3.kb,.int .i64 y3.iff,.slice y3.vp y3.vo.length y3.vc,.slice y3.ep y3.eo.length y3.ec,.slice y3.pp y3.po.length y3.pc,.int .u64 y3.stamp,.int .i64 y3.num]=W4:=⟨_,rfl⟩
     obtain ⟨⟨g0,g1,g2,g3,g4,g5,g6,g7,g8,g9⟩,hown4,hbel4⟩:=R5.out.fin W4 hW4
     have HW4:Hid (W5.setCells w.heap.size 0 (#[.int .i64 y3.kind,.string y3.temp,.string y3.ka,.string y3.kb,.int .i64 y3.iff,.slice y3.vp y3.vo.length y3.vc,.slice y3.ep y3.eo.length y3.ec,.slice y3.pp y3.po.length y3.pc,.int .u64 y3.stamp,.int .i64 y3.num]:Array Value).toList=W4):=hid hW4
     have HOW:=hid hown4
     have HBE:=hid hbel4
     clear hown4 hbel4 hW4
     go_wp2_with (first|(refine wpList_load_as rfl 42 _ rfl (w.heap.size+1) 0 rfl [.int .i64 y3.kind,.string y3.temp,.string y3.ka,.string y3.kb,.int .i64 y3.iff,.slice y3.vp y3.vo.length y3.vc,.slice y3.ep y3.eo.length y3.ec,.slice y3.pp y3.po.length y3.pc,.int .u64 y3.stamp,.int .i64 y3.num] _ HRG.out Tryz.underlying42 rfl Tryz.entSize (.agg #[.int .i64 y3.kind,.string y3.temp,.string y3.ka,.string y3.kb,.int .i64 y3.iff,.slice y3.vp y3.vo.length y3.vc,.slice y3.ep y3.eo.length y3.ec,.slice y3.pp y3.po.length y3.pc,.int .u64 y3.stamp,.int .i64 y3.num]) rfl ?_)|(refine wpList_store_as rfl 42 _ _ rfl w.heap.size 0 #[.int .i64 y3.kind,.string y3.temp,.string y3.ka,.string y3.kb,.int .i64 y3.iff,.slice y3.vp y3.vo.length y3.vc,.slice y3.ep y3.eo.length y3.ec,.slice y3.pp y3.po.length y3.pc,.int .u64 y3.stamp,.int .i64 y3.num] rfl rfl HTH.out Tryz.entSize (one_ex y3) W4 HW4.out ?_))
     exact bodyPost_ret (v:=.tuple #[.agg #[.int .i64 y3.kind,.string y3.temp,.string y3.ka,.string y3.kb,.int .i64 y3.iff,.slice y3.vp y3.vo.length y3.vc,.slice y3.ep y3.eo.length y3.ec,.slice y3.pp y3.po.length y3.pc,.int .u64 y3.stamp,.int .i64 y3.num],.bool (decide (m2+1=ws.length))]) (by simp [results,Tryz.results19,go_sem,g0,g1,g2,g3,g4,g5,g6,g7,g8,g9]) rfl ⟨⟨y3,(decide (m2+1=ws.length)),rfl,fun _=>HOW.out,HFI.out⟩,HBE.out⟩
    as_aux_lemma =>
    have b6:((kn:Int)==6)=false:=by rw [beq_eq_false_iff_ne];omega
    have b11:((kn:Int)==11)=false:=by rw [beq_eq_false_iff_ne];omega
    have HNE:Hid (kn≠7∧kn≠9∧kn≠10∧kn≠6∧kn≠11):=hid ⟨h7,fun q=>h9 (Or.inl q),fun q=>h9 (Or.inr q),fun q=>h6 (Or.inl q),fun q=>h6 (Or.inr q)⟩
    clear h7 h9 h6
    go_wp2_with fail
    go_meet
    case rel=>exact ⟨rfl,HNE.out⟩
   case rest =>
   obtain ⟨rfl,h7,h9,h10,h6,h11⟩:=hcut
   have HNE:Hid (kn≠7∧kn≠9∧kn≠10∧kn≠6∧kn≠11):=hid ⟨h7,h9,h10,h6,h11⟩
   clear h7 h9 h10 h6 h11
   have hcz2:(ws.length:Int)≤(cap:Int):=by omega
   obtain ⟨B,hB⟩:∃B:Bool,(decide (3≤kn∧kn≤5)&&(match ws[m2+1]? with|some x=>decide (x.data.toList=[105,102])|none=>false))=B:=⟨_,rfl⟩
   have HBB:=hid hB
   clear hB
   go_upto_region 37 with fail
   go_cut [195] from 14 (fun v195 wx=>v195=.bool B∧W5=wx)
   case first =>
    as_aux_lemma =>
    by_cases h3:3≤kn
    case neg =>
     have h3z:¬ (3:Int)≤(kn:Int):=by omega
     have E:Hid (B=false):=hid (by rw [←HBB.out,decide_eq_false (by omega)];rfl)
     go_wp2_with fail
     go_meet
     case rel=>exact ⟨by rw [E.out],rfl⟩
    have h3z:(3:Int)≤(kn:Int):=by omega
    by_cases h5:kn≤5
    case neg =>
     have h5z:¬ (kn:Int)≤5:=by omega
     have E:Hid (B=false):=hid (by rw [←HBB.out,decide_eq_false (by omega)];rfl)
     go_wp2_with fail
     go_meet
     case rel=>exact ⟨by rw [E.out],rfl⟩
    have h5z:(kn:Int)≤5:=by omega
    by_cases hn:m2+1<ws.length
    case neg =>
     have hnz:¬ (m2:Int)+1<(ws.length:Int):=by omega
     have E:Hid (B=false):=hid (by rw [←HBB.out,List.getElem?_eq_none (by omega),Bool.and_false])
     go_wp2_with fail
     go_meet
     case rel=>exact ⟨by rw [E.out],rfl⟩
    have hnz:(m2:Int)+1<(ws.length:Int):=by omega
    have hmz1:(0:Int)≤(m2:Int)+1:=by omega
    obtain ⟨x3,hx3⟩:∃x3,ws[m2+1]? = some x3:=⟨_,List.getElem?_eq_getElem hn⟩
    have cx3:W5.cell? ⟨b,off+(m2+1),none⟩=some (.string x3):=HTX.out W5 (m2+1) x3 hx3 R5.out.bel
    have EB:Hid (B=decide (x3.data.toList=[105,102])):=hid (by rw [←HBB.out,hx3,decide_eq_true ⟨h3,h5⟩,Bool.true_and])
    clear hx3
    by_cases hif:x3.data.toList=[105,102]
    ·have hif2:(x3.toList==[105,102])=true:=by rw [toList_data,hif];rfl
     have E:Hid (B=true):=hid (by rw [EB.out,decide_eq_true hif])
     clear hif
     go_wp2_with fail
     go_meet
     case rel=>exact ⟨by rw [E.out],rfl⟩
    ·have hif2:(x3.toList==[105,102])=false:=by rw [toList_data];exact beq_eq_false_iff_ne.2 hif
     have E:Hid (B=false):=hid (by rw [EB.out,decide_eq_false hif])
     clear hif
     go_wp2_with fail
     go_meet
     case rel=>exact ⟨by rw [E.out],rfl⟩
   case rest =>
   obtain ⟨rfl,rfl⟩:=hcut
   go_upto_if 195 with fail
   go_cut [6,12,13] from 14 (fun v6 _ _ wx=>∃(n:Nat) (y4:Ex),v6=.int .i64 n∧n≤ws.length∧Hid (RsSt w (w.heap.size+1) w.heap.size wx y4)∧Hid (Bare y4 kn)∧Hid (O=restR y4.en (bytesL (ws.drop n))))
   case first =>
    as_aux_lemma =>
    have HW0:Hid ((bytesL (ws.drop (m2+1)))[0]? = ws[m2+1]?.map (·.data.toList)):=hid (by rw [bytes_at,List.getElem?_map])
    have hk:y3.en.kind=(kn:Int):=HB5.out.kind
    cases B with
    | false =>
     have HRS:Hid (O=restR y3.en (bytesL (ws.drop (m2+1)))):=hid (by
      obtain ⟨h7,h9,h10,h6,h11⟩:=HNE.out
      rw [HT5.out,tlr_rest (by omega) (by omega) (by omega) (by omega) (by omega) (fun q=>by
       have hb:=HBB.out
       rw [decide_eq_true (by omega:3≤kn∧kn≤5),Bool.true_and] at hb
       have h2:=q.2.2
       rw [HW0.out] at h2
       cases hx:ws[m2+1]? with
       | none=>rw [hx] at h2;cases h2
       | some x =>
        rw [hx] at h2 hb
        have h4:x.data.toList=[105,102]:=Option.some.inj h2
        have hb4:decide (x.data.toList=[105,102])=false:=hb
        rw [decide_eq_true h4] at hb4
        cases hb4)])
     clear hk
     go_wp2_with fail
     go_meet
     case rel=>exact ⟨m2+1,y3,by go_num,by omega,R5,HB5,HRS⟩
    | true =>
     obtain ⟨h3,h5,x3,hx3,hif⟩:3≤kn∧kn≤5∧∃x,ws[m2+1]? = some x∧x.data.toList=[105,102]:=by
      have hb:=HBB.out
      rw [Bool.and_eq_true,decide_eq_true_eq] at hb
      cases hx:ws[m2+1]? with
      | none=>rw [hx] at hb;cases hb.2
      | some x=>rw [hx] at hb;exact ⟨hb.1.1,hb.1.2,x,rfl,of_decide_eq_true hb.2⟩
     have HTL:Hid (O=(smallR (bytesL (ws.drop (m2+1)))[1]?).bind fun n=>if n=0 then none else restR { y3.en with iff:=(n:Int) } ((bytesL (ws.drop (m2+1))).drop 2)):=hid (by
      rw [HT5.out,tlr_if (by omega) (by omega) (by rw [HW0.out,hx3,←hif];rfl)])
     have HSM:Hid (Calls Tryz.prog 42 #[.slice (some ⟨b,off,none⟩) ws.length cap,.int .i64 ((m2:Int)+1+1)] W5 fun e w'=>e=.returned (numV (smallR ((ws.map (·.data.toList))[m2+1+1]?)))∧w'=W5):=hid (rsmall16_any (some ⟨b,off,none⟩) cap ws (m2+1+1) W5 (HTV.out _ R5.out.bel) HS.out (by omega))
     obtain ⟨so,hso⟩:∃so,smallR ((ws.map (·.data.toList))[m2+1+1]?)=so:=⟨_,rfl⟩
     have hsl:((so.getD 0:Nat):Int)≤999999999:=by
      cases so with
      | none=>show (0:Int)≤_;decide
      | some n=>have:=smallR_le hso;show (n:Int)≤_;omega
     have HLEN:Hid (∀n,so=some n→m2+1+1<ws.length):=hid fun n hn=>by
      rw [hn] at hso
      rcases Nat.lt_or_ge (m2+1+1) ws.length with h|h
      ·exact h
      ·rw [List.getElem?_eq_none (by rw [List.length_map];exact h)] at hso
       cases hso
     rw [bytes_at1,hso] at HTL
     rw [hso] at HSM
     unfold numV at HSM
     obtain ⟨sn,hsn⟩:∃sn:Nat,so.getD 0=sn:=⟨_,rfl⟩
     rw [hsn] at HSM hsl
     have HSN:=hid hsn
     clear hsn hso hif hk hx3 h3 h5
     have HRG:=hid R5.out.range
     have HTH:=hid R5.out.there
     obtain ⟨W4,hW4⟩:∃W4,W5.setCells w.heap.size 0 [.int .i64 y3.kind,.string y3.temp,.string y3.ka,.string y3.kb,.int .i64 y3.iff,.slice y3.vp y3.vo.length y3.vc,.slice y3.ep y3.eo.length y3.ec,.slice y3.pp y3.po.length y3.pc,.int .u64 y3.stamp,.int .i64 y3.num]=W4:=⟨_,rfl⟩
     obtain ⟨⟨g0,g1,g2,g3,g4,g5,g6,g7,g8,g9⟩,hown4,hbel4⟩:=R5.out.fin W4 hW4
     have HW4:Hid (W5.setCells w.heap.size 0 (#[.int .i64 y3.kind,.string y3.temp,.string y3.ka,.string y3.kb,.int .i64 y3.iff,.slice y3.vp y3.vo.length y3.vc,.slice y3.ep y3.eo.length y3.ec,.slice y3.pp y3.po.length y3.pc,.int .u64 y3.stamp,.int .i64 y3.num]:Array Value).toList=W4):=hid hW4
     have HOW:=hid hown4
     have HBE:=hid hbel4
     clear hown4 hbel4 hW4
     have f1:=R5.out.open 4
     have z1:W5.cell? ⟨w.heap.size+1,4,none⟩=some (.int .i64 y3.iff):=by rw [Lib.cell_of_heap R5.out.box];rfl
     obtain ⟨y4,hzz⟩:∃q:Ex,q={ y3 with iff:=(sn:Int) }:=⟨_,rfl⟩
     have hbr:Bare y4 kn:=by rw [hzz];exact HB5.out.iff _ (by omega) hsl
     obtain ⟨W6,hW6⟩:∃W',W5.setCell ⟨w.heap.size+1,4,none⟩ (.int .i64 (sn:Int))=W':=⟨_,rfl⟩
     have R6:Hid (RsSt w (w.heap.size+1) w.heap.size W6 y4):=hid (by
      rw [←hW6]
      exact R5.out.turn 4 _ (hbr.own _ _) (by rw [hzz];rfl))
     have HB6:=hid hbr
     have HZZ:=hid hzz
     clear hbr hzz
     go_wp2_with fail
     refine HSM.out.mono ?_
     rintro e w7 ⟨rfl,rfl⟩
     obtain ⟨B2,hB2⟩:∃B2:Bool,(so.isNone||decide (sn=0))=B2:=⟨_,rfl⟩
     have HB2:=hid hB2
     clear hB2
     go_upto_region 39 with fail
     go_cut [208] from 14 (fun v208 wx=>v208=.bool B2∧w7=wx)
     case first =>
      cases so with
      | none =>
       have E:Hid (B2=true):=hid (by rw [←HB2.out];rfl)
       go_wp2_with fail
       go_meet
       case rel=>exact ⟨by rw [E.out],rfl⟩
      | some n =>
       by_cases hq:sn=0
       ·have E:Hid (B2=true):=hid (by rw [←HB2.out,decide_eq_true hq];rfl)
        have hqz:((sn:Int)==0)=true:=by rw [beq_iff_eq];omega
        clear hq
        go_wp2_with fail
        go_meet
        case rel=>exact ⟨by rw [E.out],rfl⟩
       ·have E:Hid (B2=false):=hid (by rw [←HB2.out,decide_eq_false hq];rfl)
        have hqz:((sn:Int)==0)=false:=by rw [beq_eq_false_iff_ne];omega
        clear hq
        go_wp2_with fail
        go_meet
        case rel=>exact ⟨by rw [E.out],rfl⟩
     case rest =>
     obtain ⟨rfl,rfl⟩:=hcut
     cases B2 with
     | true =>
      have HNO:Hid (O=none):=hid (by
       rw [HTL.out]
       cases so with
       | none=>rfl
       | some n =>
        have h1:=HB2.out
        have h2:n=sn:=HSN.out
        have h3:n=0:=by rw [h2];simpa using h1
        rw [Option.bind_some,if_pos h3])
      go_upto_region 40 with fail
      clear hW6 f1 z1
      go_wp2_with (first|(refine wpList_load_as rfl 42 _ rfl (w.heap.size+1) 0 rfl [.int .i64 y3.kind,.string y3.temp,.string y3.ka,.string y3.kb,.int .i64 y3.iff,.slice y3.vp y3.vo.length y3.vc,.slice y3.ep y3.eo.length y3.ec,.slice y3.pp y3.po.length y3.pc,.int .u64 y3.stamp,.int .i64 y3.num] _ HRG.out Tryz.underlying42 rfl Tryz.entSize (.agg #[.int .i64 y3.kind,.string y3.temp,.string y3.ka,.string y3.kb,.int .i64 y3.iff,.slice y3.vp y3.vo.length y3.vc,.slice y3.ep y3.eo.length y3.ec,.slice y3.pp y3.po.length y3.pc,.int .u64 y3.stamp,.int .i64 y3.num]) rfl ?_)|(refine wpList_store_as rfl 42 _ _ rfl w.heap.size 0 #[.int .i64 y3.kind,.string y3.temp,.string y3.ka,.string y3.kb,.int .i64 y3.iff,.slice y3.vp y3.vo.length y3.vc,.slice y3.ep y3.eo.length y3.ec,.slice y3.pp y3.po.length y3.pc,.int .u64 y3.stamp,.int .i64 y3.num] rfl rfl HTH.out Tryz.entSize (one_ex y3) W4 HW4.out ?_))
      exact bodyPost_ret (v:=.tuple #[.agg #[.int .i64 y3.kind,.string y3.temp,.string y3.ka,.string y3.kb,.int .i64 y3.iff,.slice y3.vp y3.vo.length y3.vc,.slice y3.ep y3.eo.length y3.ec,.slice y3.pp y3.po.length y3.pc,.int .u64 y3.stamp,.int .i64 y3.num],.bool false]) (by simp [results,Tryz.results19,go_sem,g0,g1,g2,g3,g4,g5,g6,g7,g8,g9]) rfl ⟨⟨y3,false,rfl,fun _=>HOW.out,by rw [HNO.out];rfl⟩,HBE.out⟩
     | false =>
      obtain ⟨n,rfl,hn0⟩:∃n,so=some n∧n≠0:=by
       have h1:=HB2.out
       cases so with
       | none=>cases h1
       | some n=>have h2:n=sn:=HSN.out;exact ⟨n,rfl,by rw [h2];simpa using h1⟩
      have hm3:=HLEN.out n rfl
      have HRS:Hid (O=restR y4.en (bytesL (ws.drop (m2+1+2)))):=hid (by
       rw [HTL.out,Option.bind_some,if_neg hn0,HZZ.out]
       have h2:n=sn:=HSN.out
       have:(bytesL (ws.drop (m2+1))).drop 2=bytesL (ws.drop (m2+1+2)):=by unfold bytesL;rw [←List.map_drop,List.drop_drop]
       rw [this,h2];rfl)
      clear hn0
      go_wp2_with fail
      try rw [hW6]
      go_meet
      case rel=>exact ⟨m2+1+2,y4,by go_num,by omega,R6,HB6,HRS⟩
   case rest =>
   obtain ⟨n,y4,rfl,hn,R6,HB6,HRS⟩:=hcut
   clear R5 HB5 HT5 HBB
   obtain ⟨W6,hwc⟩:∃W6,wc=W6:=⟨_,rfl⟩
   rw [hwc] at R6 ⊢
   clear hwc
   have hcz:(n:Int)≤(ws.length:Int):=by omega
   have hcz3:(0:Int)≤(n:Int):=by omega
   have htn:((n:Int)).toNat=n:=by omega
   obtain ⟨q,hq⟩:∃q:Option Addr,(if cap=n then some ⟨b,off,none⟩ else some ⟨b,off+(n),none⟩)=q:=⟨_,rfl⟩
   have HQ:=hid hq
   have HRT:Hid (∀V,Below W6.heap.size W6 V→Calls Tryz.prog 43 #[.agg #[.int .i64 y4.kind,.string y4.temp,.string y4.ka,.string y4.kb,.int .i64 y4.iff,.slice y4.vp y4.vo.length y4.vc,.slice y4.ep y4.eo.length y4.ec,.slice y4.pp y4.po.length y4.pc,.int .u64 y4.stamp,.int .i64 y4.num],.slice q (ws.length-(n):Nat) (cap-(n))] V fun e w'=>∃(z:Ex) (ok:Bool),e=.returned (.tuple #[.agg #[.int .i64 z.kind,.string z.temp,.string z.ka,.string z.kb,.int .i64 z.iff,.slice z.vp z.vo.length z.vc,.slice z.ep z.eo.length z.ec,.slice z.pp z.po.length z.pc,.int .u64 z.stamp,.int .i64 z.num],.bool ok])∧(ok=true→OwnQ w.heap.size z w')∧O=(if ok=true then some z.en else none)∧Below V.heap.size V w'):=hid fun V hV=>by
    have htx:TxtAt V q (ws.drop (n)):=by
     rw [←HQ.out]
     split
     ·exact Or.inl (List.drop_eq_nil_of_le (by omega))
     ·exact txt_drop (HTV.out V (R6.out.bel.trans (hV.mono R6.out.bel.size))) rfl _
    have h:=rrest16_any y4 HB6.out.bare q (cap-(n)) (ws.drop (n)) V HB6.out.rng htx (by rw [List.length_drop];omega) (by rw [List.length_drop];omega) fun x hx=>HS.out x (List.mem_of_mem_drop hx)
    rw [List.length_drop] at h
    refine h.mono ?_
    rintro e w' ⟨⟨z,ok,rfl,ho,hz⟩,hb⟩
    have hsz:=hV.size
    have hbs:=R6.out.bel.size
    exact ⟨z,ok,rfl,fun h=>(ho h).weak (by omega),by rw [HRS.out];exact hz,hb⟩
   have HSC:Hid (∀w',Below W6.heap.size W6 w'→w'.cell? ⟨w.heap.size+1,0,none⟩=some (.int .i64 y4.kind)∧w'.cell? ⟨w.heap.size+1,1,none⟩=some (.string y4.temp)∧w'.cell? ⟨w.heap.size+1,2,none⟩=some (.string y4.ka)∧w'.cell? ⟨w.heap.size+1,3,none⟩=some (.string y4.kb)∧w'.cell? ⟨w.heap.size+1,4,none⟩=some (.int .i64 y4.iff)∧w'.cell? ⟨w.heap.size+1,5,none⟩=some (.slice y4.vp y4.vo.length y4.vc)∧w'.cell? ⟨w.heap.size+1,6,none⟩=some (.slice y4.ep y4.eo.length y4.ec)∧w'.cell? ⟨w.heap.size+1,7,none⟩=some (.slice y4.pp y4.po.length y4.pc)∧w'.cell? ⟨w.heap.size+1,8,none⟩=some (.int .u64 y4.stamp)∧w'.cell? ⟨w.heap.size+1,9,none⟩=some (.int .i64 y4.num)):=hid fun w' h=>(R6.out.on h).cells
   have hsc:=HSC.out W6.drew (bel_drewN (Below.refl _ _) 1)
   clear hq
   go_upto_region 43 with fail
   refine wp_region_held_drew (S:=fun w'=>w'.cell? ⟨w.heap.size+1,0,none⟩=some (.int .i64 y4.kind)∧w'.cell? ⟨w.heap.size+1,1,none⟩=some (.string y4.temp)∧w'.cell? ⟨w.heap.size+1,2,none⟩=some (.string y4.ka)∧w'.cell? ⟨w.heap.size+1,3,none⟩=some (.string y4.kb)∧w'.cell? ⟨w.heap.size+1,4,none⟩=some (.int .i64 y4.iff)∧w'.cell? ⟨w.heap.size+1,5,none⟩=some (.slice y4.vp y4.vo.length y4.vc)∧w'.cell? ⟨w.heap.size+1,6,none⟩=some (.slice y4.ep y4.eo.length y4.ec)∧w'.cell? ⟨w.heap.size+1,7,none⟩=some (.slice y4.pp y4.po.length y4.pc)∧w'.cell? ⟨w.heap.size+1,8,none⟩=some (.int .u64 y4.stamp)∧w'.cell? ⟨w.heap.size+1,9,none⟩=some (.int .i64 y4.num)) (by kernel_rfl) hsc (fun hHeld=>?_)
   refine tkv 0 (.agg #[.int .i64 y4.kind,.string y4.temp,.string y4.ka,.string y4.kb,.int .i64 y4.iff,.slice y4.vp y4.vo.length y4.vc,.slice y4.ep y4.eo.length y4.ec,.slice y4.pp y4.po.length y4.pc,.int .u64 y4.stamp,.int .i64 y4.num]) hHeld ?_
   simp only [Act.put,sz]
   refine tkv 1 (.slice (some ⟨b,off,none⟩) ws.length cap) hHeld ?_
   simp only [Act.put,sz]
   refine tkv 2 (.int .i64 ((n:Int))) hHeld ?_
   simp only [Act.put,sz]
   refine take_val (i:=3) (.slice q (ws.length-(n):Nat) (cap-(n))) rfl (by kernel_rfl) (by kernel_rfl) (by kernel_rfl) (fun _ _ _ h=>h) (by rfl) (fun w hSw=>by
    rw [←HQ.out]
    by_cases hcp:cap=n
    ·rw [if_pos hcp]
     go_simp
     all_goals simp [htn]
    ·rw [if_neg hcp]
     go_simp
     all_goals simp [htn,hcp]) hHeld ?_
   simp only [Act.put,sz]
   refine wpAnyH_ready (rs:=[4]) (by kernel_rfl) (by simp) ?_
   refine AllReadyH.cons (at_drop0 rfl) (fun K hK=>?_) AllReadyH.nil
   rw [if_pos (by rfl)]
   go_simp
   refine (HRT.out _ (bel_drewN (Below.refl _ _) 1)).mono ?_
   rintro e w7 ⟨z,ok,rfl,hoz,hzO,hb7⟩
   have hb7':Below W6.heap.size W6 w7:=(bel_drewN (Below.refl W6.heap.size W6) 1).trans hb7
   have R7:=hid (R6.out.on hb7')
   have q7:=HSC.out w7 hb7'
   have HOZ:=hid hoz
   have HZO:=hid hzO
   obtain ⟨W4,hW4⟩:∃W4,w7.setCells w.heap.size 0 [.int .i64 z.kind,.string z.temp,.string z.ka,.string z.kb,.int .i64 z.iff,.slice z.vp z.vo.length z.vc,.slice z.ep z.eo.length z.ec,.slice z.pp z.po.length z.pc,.int .u64 z.stamp,.int .i64 z.num]=W4:=⟨_,rfl⟩
   obtain ⟨⟨g0,g1,g2,g3,g4,g5,g6,g7,g8,g9⟩,hown4,hbel4,q8⟩:=R7.out.leave W4 hW4
   have HW4:Hid (w7.setCells w.heap.size 0 (#[.int .i64 z.kind,.string z.temp,.string z.ka,.string z.kb,.int .i64 z.iff,.slice z.vp z.vo.length z.vc,.slice z.ep z.eo.length z.ec,.slice z.pp z.po.length z.pc,.int .u64 z.stamp,.int .i64 z.num]:Array Value).toList=W4):=hid hW4
   have HOW:=hid hown4
   have HBE:=hid hbel4
   have HTH:=hid R7.out.there
   clear hoz hzO hb7 hb7' hown4 hbel4 hW4
   go_wp2_with fail
   refine hK.out _ _ q7 (fun hHeld=>?_)
   clear hK K
   try simp only [Act.put,sz]
   refine tkv 5 (.agg #[.int .i64 z.kind,.string z.temp,.string z.ka,.string z.kb,.int .i64 z.iff,.slice z.vp z.vo.length z.vc,.slice z.ep z.eo.length z.ec,.slice z.pp z.po.length z.pc,.int .u64 z.stamp,.int .i64 z.num]) hHeld ?_
   simp only [Act.put,sz]
   refine tkv 6 (.bool ok) hHeld ?_
   simp only [Act.put,sz]
   refine wpAnyH_ready (rs:=[7]) (by kernel_rfl) (by simp) ?_
   refine AllReadyH.cons (at_drop0 rfl) (fun K hK=>?_) AllReadyH.nil
   rw [if_pos (by rfl)]
   refine wp_store_mid 42 _ _ rfl w.heap.size 0 #[.int .i64 z.kind,.string z.temp,.string z.ka,.string z.kb,.int .i64 z.iff,.slice z.vp z.vo.length z.vc,.slice z.ep z.eo.length z.ec,.slice z.pp z.po.length z.pc,.int .u64 z.stamp,.int .i64 z.num] rfl rfl HTH.out Tryz.entSize (one_ex z) ?_
   rw [HW4.out]
   refine hK.out _ _ q8 (fun hHeld=>?_)
   clear hK K
   try simp only [Act.put]
   refine tkv 8 (.bool ok) hHeld ?_
   simp only [Act.put,sz]
   refine wpAnyH_done (by kernel_rfl) ?_ _
   clear hHeld
   go_wp2_with fail
   exact bodyPost_ret (v:=.tuple #[.agg #[.int .i64 z.kind,.string z.temp,.string z.ka,.string z.kb,.int .i64 z.iff,.slice z.vp z.vo.length z.vc,.slice z.ep z.eo.length z.ec,.slice z.pp z.po.length z.pc,.int .u64 z.stamp,.int .i64 z.num],.bool ok]) (by simp [results,Tryz.results19,go_sem,g0,g1,g2,g3,g4,g5,g6,g7,g8,g9]) rfl ⟨⟨z,ok,rfl,fun h=>HOW.out (HOZ.out h),HZO.out⟩,HBE.out⟩
end
section
open Go.RowKit
theorem ansM_len16 (p:List Tm):(ansM p).length≤8:=by
 unfold ansM
 by_cases hm:mayM p=0
 ·rw [if_pos hm]
  have:=sortM_len p
  have:=(mayM_zero hm).1
  omega
 ·rw [if_neg hm];simp
set_option maxHeartbeats 40000000 in
set_option maxRecDepth 100000 in
theorem rmay16_in (x:Ex) (w:World) (h:ExIn w x) (h1:1≤x.kind) (h2:x.kind≤12) :
  Calls Tryz.prog 44 #[aggEx x] w fun e w'=>e=.returned (.bool (mayEn x.en))∧Below w.heap.size w w':=by
 obtain ⟨N,hN⟩:∃N,w.heap.size=N:=⟨_,rfl⟩
 have HK:Hid (MayK w N x (w.alloc (.cells (encEx x).toArray 42))):=by rw [←hN];exact mayK_new h
 have HN:=hid fun W=>rname16_yes x.kind W h1 h2
 have hne:=name_ne x.kind h1 h2
 have HNO:Hid (∀P:Prop,¬ P→(mayEn x.en=true→P)→mayEn x.en=false):=fun P hp hq=>by
  cases hm:mayEn x.en with
  | false=>rfl
  | true=>exact absurd (hq hm) hp
 obtain ⟨n,hn⟩:∃n,nameS x.kind=n:=⟨_,rfl⟩
 rw [hn] at HN hne
 clear hn
 have hta:=h.ka
 have htb:=h.kb
 have HTY:=hid fun W=>rtype_any x.ka W hta
 have HKY:=hid fun W=>rkey_any x.ka x.kb W hta htb
 have HKF:Hid (keyEn x.en=false→mayEn x.en=false):=fun q=>HNO.out (keyEn x.en=true) (by rw [q];decide) fun hm=>(mayEn_parts hm).key
 have HKT:Hid (typedK x.kind=true→keyEn x.en=(decide (x.kb=⟨#[]⟩)&&typeB x.ka.data.toList)):=fun q=>by unfold keyEn;exact if_pos q
 have HKN:Hid (¬ typedK x.kind=true→keyEn x.en=keyB x.ka x.kb):=fun q=>by unfold keyEn;exact if_neg q
 obtain ⟨t1,ht1⟩:∃t,(decide (x.temp=⟨#[]⟩)||decide (x.kind≤2)&&tempB x.temp.data.toList)=t:=⟨_,rfl⟩
 obtain ⟨t2,ht2⟩:∃t,decide (x.iff≠0→3≤x.kind∧x.kind≤5∧0≤x.iff∧x.iff≤999999999)=t:=⟨_,rfl⟩
 obtain ⟨t3,ht3⟩:∃t,decide (x.num≠0→x.kind=7∧0≤x.num∧x.num≤999999999)=t:=⟨_,rfl⟩
 obtain ⟨t4,ht4⟩:∃t,decide (x.stamp≠0→9≤x.kind)=t:=⟨_,rfl⟩
 obtain ⟨t5,ht5⟩:∃t,(decide (x.vo.map Fx.fld≠[]→x.kind≤3)&&mayB (x.vo.map Fx.fld))=t:=⟨_,rfl⟩
 obtain ⟨t6,ht6⟩:∃t,(decide (x.eo≠[]↔x.kind=4)&&decide (mayE x.eo=0))=t:=⟨_,rfl⟩
 obtain ⟨t7,ht7⟩:∃t,((decide (mayM x.po=0)&&decide (sortM x.po=x.po))&&decide (x.po≠[]→x.kind=2∨x.kind=8∨x.kind=12))=t:=⟨_,rfl⟩
 have HAL:Hid (mayEn x.en=(keyEn x.en&&t1&&t2&&t3&&t4&&t5&&t6&&t7)):=hid (by
  rw [←ht1,←ht2,←ht3,←ht4,←ht5,←ht6,←ht7]
  unfold mayEn
  have:decide (1≤x.en.kind∧x.en.kind≤12)=true:=decide_eq_true ⟨h1,h2⟩
  rw [this]
  simp only [Bool.true_and,Bool.and_assoc]
  rfl)
 have H1:=hid ht1
 have H2:=hid ht2
 have H3:=hid ht3
 have H4:=hid ht4
 have H5:=hid ht5
 have H6:=hid ht6
 have H7:=hid ht7
 clear ht1 ht2 ht3 ht4 ht5 ht6 ht7
 have htt:=h.temp
 have HTE:=hid fun W=>rtemp_any x.temp W htt
 have HVL:x.vo.length≤maxLen:=h.fit.1
 have HEL:x.eo.length≤maxLen:=h.efit.1
 have HPL:x.po.length≤maxLen:=h.pfit.1
 have HVM:Hid (∀W,ExIn W x→Calls Tryz.prog 84 #[.slice x.vp x.vo.length x.vc] W fun e w'=>e=.returned (.bool (mayB (x.vo.map Fx.fld)))∧Below W.heap.size W w'):=hid fun W hW=>(rmay_any x.vs x.vo W hW.val hW.fit).mono fun e w' ⟨a,b⟩=>⟨a,b.below⟩
 have HEM:Hid (∀W,ExIn W x→Calls Tryz.prog 85 #[.slice x.ep x.eo.length x.ec] W fun e w'=>e=.returned (.int .i64 (mayE x.eo))∧w'=W):=hid fun W hW=>rmayE_any x.es x.eo W hW.eds hW.efit
 have HPN:Hid (∀W,ExIn W x→Calls Tryz.prog 86 #[.slice x.pp x.po.length x.pc] W fun e w'=>∃u,e=.returned (.tuple #[u,.int .i64 (mayM x.po)])∧KM.Is w' u (ansM x.po)∧Below W.heap.size W w'):=hid fun W hW=>(rnormM_any x.ps x.po W hW.prd hW.pfit).mono fun e w' ⟨⟨u,a,b⟩,c⟩=>⟨u,a,Kind.own_is b,c⟩
 have HPS:Hid (∀W u,ExIn W x→KM.Is W u (ansM x.po)→Calls Tryz.prog 23 #[u,.slice x.pp x.po.length x.pc] W fun e w'=>e=.returned (.bool (decide (ansM x.po=x.po)))∧Below W.heap.size W w'):=hid fun W u hW hu=>(rsameM_any u x.ps (ansM x.po) x.po W hu hW.prd (by have:=ansM_len16 x.po;unfold maxLen;omega)).mono fun e w' ⟨a,n,b⟩=>⟨a,by subst b;exact bel_drewN (Below.refl _ _) n⟩
 obtain ⟨c0,-⟩:=HK.out.cells
 have h0:=h
 clear h
 have H:=hid h0
 clear h0
 unfold aggEx
 have HC:Hid (∀W,MayK w N x W→W.cell? ⟨N,0,none⟩=some (.int .i64 x.kind)∧W.cell? ⟨N,1,none⟩=some (.string x.temp)∧W.cell? ⟨N,2,none⟩=some (.string x.ka)∧W.cell? ⟨N,3,none⟩=some (.string x.kb)∧W.cell? ⟨N,4,none⟩=some (.int .i64 x.iff)∧W.cell? ⟨N,5,none⟩=some (.slice x.vp x.vo.length x.vc)∧W.cell? ⟨N,6,none⟩=some (.slice x.ep x.eo.length x.ec)∧W.cell? ⟨N,7,none⟩=some (.slice x.pp x.po.length x.pc)∧W.cell? ⟨N,8,none⟩=some (.int .u64 x.stamp)∧W.cell? ⟨N,9,none⟩=some (.int .i64 x.num)):=fun W hW=>hW.cells
 simp only [encEx,Ex.vs,Ex.es,Ex.ps] at HK c0 ⊢
 go_enter Tryz.func44,Tryz.ntmps44
 go_upto_if 11 with (first|(go_at_call 39;refine (HN.out _).mono ?_;rintro e w1 ⟨rfl,q1⟩;have K1:=hid (HK.out.on q1);clear q1 HK c0))
 go_cut [1,3] from 7 (fun v1 v3 wx=>v1=.pointer (some ⟨N,0,none⟩)∧v3=.int .i64 x.kind∧Hid (MayK w N x wx))
 case first =>
  as_aux_lemma =>
   go_wp2_with fail
   go_meet
   case rel=>exact ⟨rfl,rfl,K1.out⟩
 case rest =>
  obtain ⟨rfl,rfl,K2⟩:=hcut
  clear K1 hne HN
  go_upto_region 4 with fail
  go_cut [1,3,4] from 7 (fun v1 v3 v4 wx=>v1=.pointer (some ⟨N,0,none⟩)∧v3=.int .i64 x.kind∧v4=.bool (typedK x.kind)∧Hid (MayK w N x wx))
  case first =>
   as_aux_lemma =>
    by_cases e8:x.kind=8
    ·have HT:Hid (typedK x.kind=true):=by show _=_;rw [e8];rfl
     go_wp2_with fail
     go_meet
     case rel=>exact ⟨rfl,by rw [e8],by rw [HT.out],K2.out⟩
    by_cases e10:x.kind=10
    ·have HT:Hid (typedK x.kind=true):=by show _=_;rw [e10];rfl
     go_wp2_with fail
     go_meet
     case rel=>exact ⟨rfl,by rw [e10],by rw [HT.out],K2.out⟩
    by_cases e12:x.kind=12
    ·have HT:Hid (typedK x.kind=true):=by show _=_;rw [e12];rfl
     go_wp2_with fail
     go_meet
     case rel=>exact ⟨rfl,by rw [e12],by rw [HT.out],K2.out⟩
    have HT:Hid (typedK x.kind=false):=by show _=_;unfold typedK;simp [e8,e10,e12]
    have b8:(x.kind==8)=false:=by rw [beq_eq_false_iff_ne];exact e8
    have b10:(x.kind==10)=false:=by rw [beq_eq_false_iff_ne];exact e10
    have b12:(x.kind==12)=false:=by rw [beq_eq_false_iff_ne];exact e12
    go_wp2_with fail
    go_meet
    case rel=>exact ⟨rfl,rfl,by rw [HT.out],K2.out⟩
  case rest =>
  obtain ⟨rfl,rfl,rfl,K3⟩:=hcut
  clear K2
  go_upto_region 5 with fail
  go_cut [1,3,4,45] from 7 (fun v1 v3 _ v45 wx=>v1=.pointer (some ⟨N,0,none⟩)∧v3=.int .i64 x.kind∧v45=.bool (!keyEn x.en)∧Hid (MayK w N x wx))
  case first =>
   as_aux_lemma =>
    obtain ⟨d0,d1,d2,d3,d4,d5,d6,d7,d8,d9⟩:=HC.out wc K3.out
    cases ht:typedK x.kind with
    | true =>
     have HKE:=hid (HKT.out ht)
     clear HKT HKN
     by_cases eb:x.kb=⟨#[]⟩
     ·have hbe:x.kb.toList.isEmpty=true:=by rw [eb,Lib.toList_data];rfl
      have HKE2:Hid (keyEn x.en=typeB x.ka.data.toList):=by show _=_;rw [HKE.out,eb];simp
      clear eb
      cases hty:typeB x.ka.data.toList
      all_goals
       rw [hty] at HTY HKE2
       clear hty
       go_wp2_with (first|(go_at_call 82;refine (HTY.out _).mono ?_;rintro e w2 ⟨rfl,rfl⟩))
       go_meet
       case rel=>exact ⟨rfl,rfl,by rw [HKE2.out];rfl,K3.out⟩
     ·have hbe:x.kb.toList.isEmpty=false:=by
       rw [Lib.toList_data]
       cases hq:x.kb.data.toList with
       | nil=>exact absurd (ba_empty hq) eb
       | cons _ _=>rfl
      have HKE2:Hid (keyEn x.en=false):=by show _=_;rw [HKE.out];simp [eb]
      clear eb
      go_wp2_with fail
      go_meet
      case rel=>exact ⟨rfl,rfl,by rw [HKE2.out];rfl,K3.out⟩
    | false =>
     have HKE:=hid (HKN.out (by rw [ht];decide))
     clear HKT HKN
     go_wp2_with (first|(go_at_call 78;refine (HKY.out _).mono ?_;rintro e w2 ⟨rfl,q2⟩))
     go_meet
     case rel=>exact ⟨rfl,rfl,by rw [HKE.out],K3.out.on q2⟩
  case rest =>
  obtain ⟨rfl,rfl,rfl,K4⟩:=hcut
  clear K3 HKT HKN HTY HKY
  cases hke:keyEn x.en with
  | false =>
   have HF:=hid (HKF.out hke)
   go_wp2_with fail
   go_ret
   rw [HF.out]
   exact ⟨rfl,K4.out.bel⟩
  | true =>
   have HKE1:Hid (keyEn x.en=true):=hid hke
   clear hke
   go_upto_region 7 with fail
   go_cut [1,3,58] from 7 (fun v1 v3 v58 wx=>v1=.pointer (some ⟨N,0,none⟩)∧v3=.int .i64 x.kind∧v58=.bool (!t1)∧Hid (MayK w N x wx))
   case first =>
    as_aux_lemma =>
     obtain ⟨-,d1,-⟩:=HC.out _ K4.out
     by_cases q:x.temp=⟨#[]⟩
     ·have hse:x.temp.toList.isEmpty=true:=by rw [q,Lib.toList_data];rfl
      have E:Hid (t1=true):=hid (by rw [←H1.out];simp [q])
      clear q
      go_wp2_with fail
      go_meet
      case rel=>exact ⟨rfl,rfl,by rw [E.out];rfl,K4.out⟩
     ·have hse:=isEmpty_no16 q
      by_cases q2:2<x.kind
      ·have E:Hid (t1=false):=hid (by rw [←H1.out];simp [q];omega)
       clear q
       go_wp2_with fail
       go_meet
       case rel=>exact ⟨rfl,rfl,by rw [E.out];rfl,K4.out⟩
      ·have E:Hid (t1=tempB x.temp.data.toList):=hid (by rw [←H1.out,decide_eq_false q,decide_eq_true (show x.kind≤2 by omega)];rfl)
       clear q
       obtain ⟨tb,htb⟩:∃tb,tempB x.temp.data.toList=tb:=⟨_,rfl⟩
       rw [htb] at E HTE
       clear htb
       go_wp2_with (first|(go_at_call 83;refine (HTE.out _).mono ?_;rintro e w2 ⟨rfl,rfl⟩))
       go_meet
       case rel=>exact ⟨rfl,rfl,by rw [E.out],K4.out⟩
   case rest =>
   obtain ⟨rfl,rfl,rfl,K5⟩:=hcut
   clear K4 HTE
   cases t1 with
   | false =>
    go_wp2_with fail
    go_ret
    exact ⟨by rw [HAL.out];simp,K5.out.bel⟩
   | true =>
   go_upto_region 9 with fail
   go_cut [1,3,79] from 7 (fun v1 v3 v79 wx=>v1=.pointer (some ⟨N,0,none⟩)∧v3=.int .i64 x.kind∧v79=.bool (!t2)∧Hid (MayK w N x wx))
   case first =>
    as_aux_lemma =>
     obtain ⟨-,-,-,-,d4,-⟩:=HC.out _ K5.out
     by_cases q:x.iff=0
     ·skip
      have E:Hid (t2=true):=hid (by rw [←H2.out];exact decide_eq_true (by omega))
      go_wp2_with fail
      go_meet
      case rel=>exact ⟨rfl,by first|rfl|simp [*],by rw [E.out];rfl,K5.out⟩
     have Bq:(x.iff==0)=false:=by rw [beq_eq_false_iff_ne];exact q
     have Cq:(x.iff != 0)=true:=by rw [bne_iff_ne];exact q
     by_cases r1:x.kind<3
     ·skip
      have E:Hid (t2=false):=hid (by rw [←H2.out];exact decide_eq_false (by omega))
      go_wp2_with fail
      go_meet
      case rel=>exact ⟨rfl,by first|rfl|simp [*],by rw [E.out];rfl,K5.out⟩
     by_cases r2:5<x.kind
     ·skip
      have E:Hid (t2=false):=hid (by rw [←H2.out];exact decide_eq_false (by omega))
      go_wp2_with fail
      go_meet
      case rel=>exact ⟨rfl,by first|rfl|simp [*],by rw [E.out];rfl,K5.out⟩
     by_cases r3:x.iff<0
     ·skip
      have E:Hid (t2=false):=hid (by rw [←H2.out];exact decide_eq_false (by omega))
      go_wp2_with fail
      go_meet
      case rel=>exact ⟨rfl,by first|rfl|simp [*],by rw [E.out];rfl,K5.out⟩
     by_cases r4:999999999<x.iff
     ·skip
      have E:Hid (t2=false):=hid (by rw [←H2.out];exact decide_eq_false (by omega))
      go_wp2_with fail
      go_meet
      case rel=>exact ⟨rfl,by first|rfl|simp [*],by rw [E.out];rfl,K5.out⟩
     have E:Hid (t2=true):=hid (by rw [←H2.out];exact decide_eq_true (by omega))
     clear q
     go_wp2_with fail
     go_meet
     case rel=>exact ⟨rfl,by first|rfl|simp [*],by rw [E.out];rfl,K5.out⟩
   case rest =>
   obtain ⟨rfl,rfl,rfl,K6⟩:=hcut
   clear K5
   cases t2 with
   | false =>
    go_wp2_with fail
    go_ret
    exact ⟨by rw [HAL.out];simp,K6.out.bel⟩
   | true =>
   go_upto_region 11 with fail
   go_cut [1,3,96] from 7 (fun v1 v3 v96 wx=>v1=.pointer (some ⟨N,0,none⟩)∧v3=.int .i64 x.kind∧v96=.bool (!t3)∧Hid (MayK w N x wx))
   case first =>
    as_aux_lemma =>
     obtain ⟨-,-,-,-,-,-,-,-,-,d9⟩:=HC.out _ K6.out
     by_cases q:x.num=0
     ·skip
      have E:Hid (t3=true):=hid (by rw [←H3.out];exact decide_eq_true (by omega))
      go_wp2_with fail
      go_meet
      case rel=>exact ⟨rfl,by first|rfl|simp [*],by rw [E.out];rfl,K6.out⟩
     have Bq:(x.num==0)=false:=by rw [beq_eq_false_iff_ne];exact q
     have Cq:(x.num != 0)=true:=by rw [bne_iff_ne];exact q
     by_cases r1:¬ x.kind=7
     ·have Br1:(x.kind==7)=false:=by rw [beq_eq_false_iff_ne];exact r1
      have Cr1:(x.kind != 7)=true:=by rw [bne_iff_ne];exact r1
      have E:Hid (t3=false):=hid (by rw [←H3.out];exact decide_eq_false (by omega))
      clear r1
      go_wp2_with fail
      go_meet
      case rel=>exact ⟨rfl,by first|rfl|simp [*],by rw [E.out];rfl,K6.out⟩
     have k7:x.kind=7:=by omega
     have HK7:Hid (x.kind=7):=hid k7
     by_cases r3:x.num<0
     ·skip
      have E:Hid (t3=false):=hid (by rw [←H3.out];exact decide_eq_false (by omega))
      go_wp2_with fail
      clear k7
      try rw [←HK7.out]
      go_meet
      case rel=>exact ⟨rfl,by first|rfl|simp [*],by rw [E.out];rfl,K6.out⟩
     by_cases r4:999999999<x.num
     ·skip
      have E:Hid (t3=false):=hid (by rw [←H3.out];exact decide_eq_false (by omega))
      go_wp2_with fail
      clear k7
      try rw [←HK7.out]
      go_meet
      case rel=>exact ⟨rfl,by first|rfl|simp [*],by rw [E.out];rfl,K6.out⟩
     have E:Hid (t3=true):=hid (by rw [←H3.out];exact decide_eq_true (by omega))
     clear q r1
     go_wp2_with fail
     clear k7
     try rw [←HK7.out]
     go_meet
     case rel=>exact ⟨rfl,by first|rfl|simp [*],by rw [E.out];rfl,K6.out⟩
   case rest =>
   obtain ⟨rfl,rfl,rfl,K7⟩:=hcut
   clear K6
   cases t3 with
   | false =>
    go_wp2_with fail
    go_ret
    exact ⟨by rw [HAL.out];simp,K7.out.bel⟩
   | true =>
   go_upto_region 13 with fail
   go_cut [1,3,103] from 7 (fun v1 v3 v103 wx=>v1=.pointer (some ⟨N,0,none⟩)∧v3=.int .i64 x.kind∧v103=.bool (!t4)∧Hid (MayK w N x wx))
   case first =>
    as_aux_lemma =>
     obtain ⟨-,-,-,-,-,-,-,-,d8,-⟩:=HC.out _ K7.out
     by_cases q:x.stamp=0
     ·skip
      have E:Hid (t4=true):=hid (by rw [←H4.out];exact decide_eq_true (by omega))
      go_wp2_with fail
      go_meet
      case rel=>exact ⟨rfl,by first|rfl|simp [*],by rw [E.out];rfl,K7.out⟩
     have Bq:(x.stamp==0)=false:=by rw [beq_eq_false_iff_ne];exact q
     have Cq:(x.stamp != 0)=true:=by rw [bne_iff_ne];exact q
     by_cases r1:x.kind<9
     ·skip
      have E:Hid (t4=false):=hid (by rw [←H4.out];exact decide_eq_false (by omega))
      go_wp2_with fail
      go_meet
      case rel=>exact ⟨rfl,by first|rfl|simp [*],by rw [E.out];rfl,K7.out⟩
     have E:Hid (t4=true):=hid (by rw [←H4.out];exact decide_eq_true (by omega))
     clear q
     go_wp2_with fail
     go_meet
     case rel=>exact ⟨rfl,by first|rfl|simp [*],by rw [E.out];rfl,K7.out⟩
   case rest =>
   obtain ⟨rfl,rfl,rfl,K8⟩:=hcut
   clear K7
   cases t4 with
   | false =>
    go_wp2_with fail
    go_ret
    exact ⟨by rw [HAL.out];simp,K8.out.bel⟩
   | true =>
   go_upto_region 15 with fail
   go_cut [1,3,117] from 7 (fun v1 v3 v117 wx=>v1=.pointer (some ⟨N,0,none⟩)∧v3=.int .i64 x.kind∧v117=.bool (!t5)∧Hid (MayK w N x wx))
   case first =>
    as_aux_lemma =>
     obtain ⟨-,-,-,-,-,d5,-⟩:=HC.out _ K8.out
     have HZ:Hid (∀n:Nat,x.vo.length=n→(x.vo.map Fx.fld≠[]↔0<n)):=hid fun n hn=>by
      rw [←hn]
      cases x.vo<;>simp
     obtain ⟨mb,hmb⟩:∃mb,mayB (x.vo.map Fx.fld)=mb:=⟨_,rfl⟩
     rw [hmb] at HVM H5
     clear hmb
     by_cases q:0<x.vo.length
     ·have qz:(0:Int)<(x.vo.length:Int):=by omega
      by_cases r:3<x.kind
      ·have E:Hid (t5=false):=hid (by
        rw [←H5.out,decide_eq_false (by rw [HZ.out _ rfl];omega)]
        rfl)
       clear q
       go_wp2_with fail
       go_meet
       case rel=>exact ⟨rfl,rfl,by rw [E.out];rfl,K8.out⟩
      ·have E:Hid (t5=mb):=hid (by
        rw [←H5.out,decide_eq_true (by intro _;omega),Bool.true_and])
       clear q
       go_wp2_with (first|(go_at_call 84;refine (HVM.out _ K8.out.ex).mono ?_;rintro e w2 ⟨rfl,q2⟩))
       go_meet
       case rel=>exact ⟨rfl,rfl,by rw [E.out],K8.out.on q2⟩
     ·have qz:¬ (0:Int)<(x.vo.length:Int):=by omega
      have E:Hid (t5=mb):=hid (by
       rw [←H5.out,decide_eq_true (by rw [HZ.out _ rfl];omega),Bool.true_and])
      clear q
      go_wp2_with (first|(go_at_call 84;refine (HVM.out _ K8.out.ex).mono ?_;rintro e w2 ⟨rfl,q2⟩))
      go_meet
      case rel=>exact ⟨rfl,rfl,by rw [E.out],K8.out.on q2⟩
   case rest =>
   obtain ⟨rfl,rfl,rfl,K9⟩:=hcut
   clear K8 HVM
   cases t5 with
   | false =>
    go_wp2_with fail
    go_ret
    exact ⟨by rw [HAL.out];simp,K9.out.bel⟩
   | true =>
   go_upto_region 17 with fail
   go_cut [1,3,130] from 7 (fun v1 v3 v130 wx=>v1=.pointer (some ⟨N,0,none⟩)∧v3=.int .i64 x.kind∧v130=.bool (!t6)∧Hid (MayK w N x wx))
   case first =>
    as_aux_lemma =>
     obtain ⟨-,-,-,-,-,-,d6,-⟩:=HC.out _ K9.out
     have HZ:Hid (∀n:Nat,x.eo.length=n→(x.eo≠[]↔0<n)):=hid fun n hn=>by
      rw [←hn]
      cases x.eo<;>simp
     obtain ⟨me,hme⟩:∃me,mayE x.eo=me:=⟨_,rfl⟩
     rw [hme] at HEM H6
     clear hme
     have key:∀(bz:Bool),(decide (x.eo≠[]↔x.kind=4)=bz)→Hid (t6=(bz&&decide (me=0))):=fun bz hbz=>hid (by rw [←H6.out,hbz])
     have KEY:=hid key
     clear key
     obtain ⟨ne,hne⟩:∃n,x.eo.length=n:=⟨_,rfl⟩
     have HNE:=hid hne
     rw [hne] at d6 HEM HEL
     clear hne
     by_cases q:ne=0
     ·subst q
      by_cases r:x.kind=4
      ·have HK4:Hid (x.kind=4):=hid r
       have E:=KEY.out false (decide_eq_false (by rw [HZ.out _ HNE.out];omega))
       have E2:Hid (t6=false):=hid (by rw [E.out];rfl)
       clear KEY E
       go_wp2_with fail
       clear r
       try rw [←HK4.out]
       go_meet
       case rel=>exact ⟨rfl,by first|rfl|simp [*],by rw [E2.out];rfl,K9.out⟩
      ·have E:=KEY.out true (decide_eq_true (by rw [HZ.out _ HNE.out];omega))
       have b4:(x.kind==4)=false:=by rw [beq_eq_false_iff_ne];exact r
       clear r KEY
       by_cases z:me=0
       ·subst z
        have E2:Hid (t6=true):=hid (by rw [E.out];rfl)
        clear E
        go_wp2_with (first|(go_at_call 85;refine (HEM.out _ K9.out.ex).mono ?_;rintro e w2 ⟨rfl,rfl⟩))
        go_meet
        case rel=>exact ⟨rfl,by first|rfl|simp [*],by rw [E2.out];rfl,K9.out⟩
       ·have bz:(me==0)=false:=by rw [beq_eq_false_iff_ne];exact z
        have cz:(me != 0)=true:=by rw [bne_iff_ne];exact z
        have E2:Hid (t6=false):=hid (by rw [E.out,decide_eq_false z];rfl)
        clear z E
        go_wp2_with (first|(go_at_call 85;refine (HEM.out _ K9.out.ex).mono ?_;rintro e w2 ⟨rfl,rfl⟩))
        go_meet
        case rel=>exact ⟨rfl,by first|rfl|simp [*],by rw [E2.out];rfl,K9.out⟩
     ·have qz:(0:Int)<(ne:Int):=by omega
      by_cases r:x.kind=4
      ·have HK4:Hid (x.kind=4):=hid r
       have E:=KEY.out true (decide_eq_true (by rw [HZ.out _ HNE.out];omega))
       clear q KEY
       by_cases z:me=0
       ·subst z
        have E2:Hid (t6=true):=hid (by rw [E.out];rfl)
        clear E
        go_wp2_with (first|(go_at_call 85;refine (HEM.out _ K9.out.ex).mono ?_;rintro e w2 ⟨rfl,rfl⟩))
        clear r
        try rw [←HK4.out]
        go_meet
        case rel=>exact ⟨rfl,by first|rfl|simp [*],by rw [E2.out];rfl,K9.out⟩
       ·have bz:(me==0)=false:=by rw [beq_eq_false_iff_ne];exact z
        have cz:(me != 0)=true:=by rw [bne_iff_ne];exact z
        have E2:Hid (t6=false):=hid (by rw [E.out,decide_eq_false z];rfl)
        clear z E
        go_wp2_with (first|(go_at_call 85;refine (HEM.out _ K9.out.ex).mono ?_;rintro e w2 ⟨rfl,rfl⟩))
        clear r
        try rw [←HK4.out]
        go_meet
        case rel=>exact ⟨rfl,by first|rfl|simp [*],by rw [E2.out];rfl,K9.out⟩
      ·have E:=KEY.out false (decide_eq_false (by rw [HZ.out _ HNE.out];omega))
       have b4:(x.kind==4)=false:=by rw [beq_eq_false_iff_ne];exact r
       have E2:Hid (t6=false):=hid (by rw [E.out];rfl)
       clear q r KEY E
       go_wp2_with fail
       go_meet
       case rel=>exact ⟨rfl,by first|rfl|simp [*],by rw [E2.out];rfl,K9.out⟩
   case rest =>
   obtain ⟨rfl,rfl,rfl,Ka⟩:=hcut
   clear K9 HEM
   cases t6 with
   | false =>
    go_wp2_with fail
    go_ret
    exact ⟨by rw [HAL.out];simp,Ka.out.bel⟩
   | true =>
   as_aux_lemma =>
    obtain ⟨d0,d1,d2,d3,d4,d5,d6,d7,d8,d9⟩:=HC.out _ Ka.out
    have HX2:=hid Ka.out.ex
    obtain ⟨mm,hmm⟩:∃mm,mayM x.po=mm:=⟨_,rfl⟩
    obtain ⟨sm,hsm⟩:∃sm,decide (ansM x.po=x.po)=sm:=⟨_,rfl⟩
    have HS7:Hid (mm=0→t7=(sm&&decide (x.po≠[]→x.kind=2∨x.kind=8∨x.kind=12))):=hid fun hz=>by
     have e:ansM x.po=sortM x.po:=by unfold ansM;rw [hmm,if_pos hz]
     rw [←H7.out,←hsm,e,hmm,decide_eq_true hz,Bool.true_and]
    have HS0:Hid (¬ mm=0→t7=false):=hid fun hz=>by rw [←H7.out,hmm,decide_eq_false hz];rfl
    have HZ:Hid (x.po≠[]↔0<x.po.length):=hid (by cases x.po<;>simp)
    rw [hmm] at HPN
    rw [hsm] at HPS
    clear hmm hsm
    by_cases z:mm=0
    case neg =>
     have E:=hid (HS0.out z)
     have bz:(mm==0)=false:=by rw [beq_eq_false_iff_ne];exact z
     clear z
     go_wp2_with (first|(go_at_call 86;refine (HPN.out _ HX2.out).mono ?_;rintro e w2 ⟨u,rfl,hu,hb2⟩;have K2:=hid (Ka.out.on hb2);clear hb2 hu))
     go_ret
     exact ⟨by rw [HAL.out,HKE1.out,E.out];rfl,K2.out.bel⟩
    have E0:=hid (HS7.out z)
    have bz:(mm==0)=true:=by rw [z];rfl
    clear z
    cases sm with
    | false =>
     have E:Hid (t7=false):=hid (by rw [E0.out];rfl)
     go_wp2_with (first|(go_at_call 86;refine (HPN.out _ HX2.out).mono ?_;rintro e w2 ⟨u,rfl,hu,hb2⟩;have K2:=hid (Ka.out.on hb2);have HU:=hid hu;have HX3:=hid K2.out.ex;obtain ⟨f0,f1,f2,f3,f4,f5,f6,f7,f8,f9⟩:=HC.out _ K2.out;clear hb2 hu)|(go_at_call 23;refine (HPS.out _ _ HX3.out HU.out).mono ?_;rintro e w3 ⟨rfl,hb3⟩;have K3:=hid (K2.out.on hb3);obtain ⟨g0,g1,g2,g3,g4,g5,g6,g7,g8,g9⟩:=HC.out _ K3.out;clear hb3))
     go_ret
     exact ⟨by rw [HAL.out,HKE1.out,E.out];rfl,K3.out.bel⟩
    | true =>
     by_cases p0:x.po.length=0
     case pos =>
      have E:Hid (t7=true):=hid (by rw [E0.out,decide_eq_true (by rw [HZ.out];omega)];rfl)
      have bp:((x.po.length:Int)==0)=true:=by rw [beq_iff_eq];omega
      clear p0
      go_wp2_with (first|(go_at_call 86;refine (HPN.out _ HX2.out).mono ?_;rintro e w2 ⟨u,rfl,hu,hb2⟩;have K2:=hid (Ka.out.on hb2);have HU:=hid hu;have HX3:=hid K2.out.ex;obtain ⟨f0,f1,f2,f3,f4,f5,f6,f7,f8,f9⟩:=HC.out _ K2.out;clear hb2 hu)|(go_at_call 23;refine (HPS.out _ _ HX3.out HU.out).mono ?_;rintro e w3 ⟨rfl,hb3⟩;have K3:=hid (K2.out.on hb3);obtain ⟨g0,g1,g2,g3,g4,g5,g6,g7,g8,g9⟩:=HC.out _ K3.out;clear hb3))
      go_ret
      exact ⟨by rw [HAL.out,HKE1.out,E.out];rfl,K3.out.bel⟩
     have bp:((x.po.length:Int)==0)=false:=by rw [beq_eq_false_iff_ne];omega
     by_cases k2:x.kind=2
     case pos =>
      have E:Hid (t7=true):=hid (by rw [E0.out,decide_eq_true (by intro _;omega)];rfl)
      have b2:(x.kind==2)=true:=by rw [beq_iff_eq];exact k2
      clear p0 k2
      go_wp2_with (first|(go_at_call 86;refine (HPN.out _ HX2.out).mono ?_;rintro e w2 ⟨u,rfl,hu,hb2⟩;have K2:=hid (Ka.out.on hb2);have HU:=hid hu;have HX3:=hid K2.out.ex;obtain ⟨f0,f1,f2,f3,f4,f5,f6,f7,f8,f9⟩:=HC.out _ K2.out;clear hb2 hu)|(go_at_call 23;refine (HPS.out _ _ HX3.out HU.out).mono ?_;rintro e w3 ⟨rfl,hb3⟩;have K3:=hid (K2.out.on hb3);obtain ⟨g0,g1,g2,g3,g4,g5,g6,g7,g8,g9⟩:=HC.out _ K3.out;clear hb3))
      go_ret
      exact ⟨by rw [HAL.out,HKE1.out,E.out];rfl,K3.out.bel⟩
     have b2:(x.kind==2)=false:=by rw [beq_eq_false_iff_ne];exact k2
     by_cases k8:x.kind=8
     case pos =>
      have E:Hid (t7=true):=hid (by rw [E0.out,decide_eq_true (by intro _;omega)];rfl)
      have b8:(x.kind==8)=true:=by rw [beq_iff_eq];exact k8
      clear p0 k8
      go_wp2_with (first|(go_at_call 86;refine (HPN.out _ HX2.out).mono ?_;rintro e w2 ⟨u,rfl,hu,hb2⟩;have K2:=hid (Ka.out.on hb2);have HU:=hid hu;have HX3:=hid K2.out.ex;obtain ⟨f0,f1,f2,f3,f4,f5,f6,f7,f8,f9⟩:=HC.out _ K2.out;clear hb2 hu)|(go_at_call 23;refine (HPS.out _ _ HX3.out HU.out).mono ?_;rintro e w3 ⟨rfl,hb3⟩;have K3:=hid (K2.out.on hb3);obtain ⟨g0,g1,g2,g3,g4,g5,g6,g7,g8,g9⟩:=HC.out _ K3.out;clear hb3))
      go_ret
      exact ⟨by rw [HAL.out,HKE1.out,E.out];rfl,K3.out.bel⟩
     have b8:(x.kind==8)=false:=by rw [beq_eq_false_iff_ne];exact k8
     by_cases k12:x.kind=12
     case pos =>
      have E:Hid (t7=true):=hid (by rw [E0.out,decide_eq_true (by intro _;omega)];rfl)
      have b12:(x.kind==12)=true:=by rw [beq_iff_eq];exact k12
      clear p0 k12
      go_wp2_with (first|(go_at_call 86;refine (HPN.out _ HX2.out).mono ?_;rintro e w2 ⟨u,rfl,hu,hb2⟩;have K2:=hid (Ka.out.on hb2);have HU:=hid hu;have HX3:=hid K2.out.ex;obtain ⟨f0,f1,f2,f3,f4,f5,f6,f7,f8,f9⟩:=HC.out _ K2.out;clear hb2 hu)|(go_at_call 23;refine (HPS.out _ _ HX3.out HU.out).mono ?_;rintro e w3 ⟨rfl,hb3⟩;have K3:=hid (K2.out.on hb3);obtain ⟨g0,g1,g2,g3,g4,g5,g6,g7,g8,g9⟩:=HC.out _ K3.out;clear hb3))
      go_ret
      exact ⟨by rw [HAL.out,HKE1.out,E.out];rfl,K3.out.bel⟩
     have b12:(x.kind==12)=false:=by rw [beq_eq_false_iff_ne];exact k12
     have E:Hid (t7=false):=hid (by rw [E0.out,decide_eq_false (by rw [HZ.out];omega)];rfl)
     clear p0 k2 k8 k12
     go_wp2_with (first|(go_at_call 86;refine (HPN.out _ HX2.out).mono ?_;rintro e w2 ⟨u,rfl,hu,hb2⟩;have K2:=hid (Ka.out.on hb2);have HU:=hid hu;have HX3:=hid K2.out.ex;obtain ⟨f0,f1,f2,f3,f4,f5,f6,f7,f8,f9⟩:=HC.out _ K2.out;clear hb2 hu)|(go_at_call 23;refine (HPS.out _ _ HX3.out HU.out).mono ?_;rintro e w3 ⟨rfl,hb3⟩;have K3:=hid (K2.out.on hb3);obtain ⟨g0,g1,g2,g3,g4,g5,g6,g7,g8,g9⟩:=HC.out _ K3.out;clear hb3))
     go_ret
     exact ⟨by rw [HAL.out,HKE1.out,E.out];rfl,K3.out.bel⟩
end
section
open Go.RowKit Go.Lib
theorem rmay16_any (x:Ex) (w:World) (h:ExIn w x) :
  Calls Tryz.prog 44 #[aggEx x] w fun e w'=>e=.returned (.bool (mayEn x.en))∧Below w.heap.size w w':=by
 by_cases hr:1≤x.kind∧x.kind≤12
 ·exact rmay16_in x w h hr.1 hr.2
 ·exact rmay16_out x w h hr
set_option maxHeartbeats 8000000 in
set_option maxRecDepth 100000 in
theorem rMay16_any (once:Bool) (v:Value) (d:List Ex) (w:World) (hd:RqIn w v d) :
  Calls Tryz.prog 20 #[.agg #[.bool once,v]] w fun e w'=>e=.returned (.bool (mayRq (d.map Ex.en)))∧Below w.heap.size w w':=by
 have HD:=hid hd
 obtain ⟨a,cap,rfl,hrow⟩:=hd.row
 have hlen:=hd.len
 have HR:=hid hrow
 have HAL:Hid (Below w.heap.size w (w.alloc (.cells #[.bool once,.slice a d.length cap] 25))):=hid ((Below.refl _ _).alloc (Nat.le_refl _) _)
 have HBX:Hid ((w.alloc (.cells #[.bool once,.slice a d.length cap] 25)).heap[w.heap.size]? = some (.cells #[.bool once,.slice a d.length cap] 25 (0,0))):=hid (heap_alloc_new w _)
 have HM:Hid (mayRq (d.map Ex.en)=(decide (0<d.length)&&decide (d.length≤16)&&d.all fun x=>mayEn x.en)):=hid (by
  unfold mayRq
  rw [List.length_map,List.all_map]
  rfl)
 clear hd hrow
 go_enter Tryz.func20,Tryz.ntmps20
 go_wp2_with fail
 go_loopg [3] d.length (fun g vi wr=>∃(i:Nat),vi=.int .i64 i∧i≤d.length∧i≤16∧d.length-i≤g∧Hid (Below w.heap.size w wr)∧Hid (wr.heap[w.heap.size]? = some (.cells #[.bool once,.slice a d.length cap] 25 (0,0)))∧Hid ((d.take i).all (fun x=>mayEn x.en)=true))
 case atStart=>exact ⟨0,rfl,by omega,by omega,by omega,HAL,HBX,hid rfl⟩
 case round =>
  obtain ⟨i,rfl,hi,h16,hig,HB,HQ,HA⟩:=hrel
  have r2:wr.cell? ⟨w.heap.size,1,none⟩=some (.slice a d.length cap):=by rw [Lib.cell_of_heap HQ.out];rfl
  by_cases hlt:i<d.length
  ·have HLT:=hid hlt
   have hltz:(i:Int)<(d.length:Int):=by omega
   have hiz:(0:Int)≤(i:Int):=by omega
   by_cases e16:i=16
   ·have bz:((i:Int)==16)=true:=by rw [beq_iff_eq];omega
    have HF:Hid (mayRq (d.map Ex.en)=false):=hid (by rw [HM.out,decide_eq_false (by omega:¬ d.length≤16)];simp)
    clear e16
    go_wp2_with fail
    go_ret
    exact ⟨by first|(rw [HF.out];done)|(rw [HF.out];rfl),HB.out⟩
   have bz:((i:Int)==16)=false:=by rw [beq_eq_false_iff_ne];omega
   obtain ⟨b,off,rfl,hat⟩:∃b off,a=some ⟨b,off,none⟩∧KEx.At w b off d:=by
    rcases HR.out with h|⟨b,off,h1,h2⟩
    ·rw [h] at hlt;simp at hlt
    ·exact ⟨b,off,h1,h2⟩
   obtain ⟨y,hy⟩:∃y,d[i]? = some y:=⟨_,List.getElem?_eq_getElem hlt⟩
   obtain ⟨c0,c1,c2,c3,c4,c5,c6,c7,c8,c9⟩:=row_cellsQ (Kind.at_kept hat HB.out) i y hy
   simp only [Nat.add_zero] at c0
   have hmem:=List.mem_of_getElem? hy
   have HTK:Hid (d.take (i+1)=d.take i++[y]):=hid (by
    obtain ⟨h1,h2⟩:=List.getElem?_eq_some_iff.1 hy
    rw [←h2];exact List.take_succ_eq_append_getElem h1)
   have HMEM:=hid hmem
   have HMY:Hid (Calls Tryz.prog 44 #[.agg #[.int .i64 y.kind,.string y.temp,.string y.ka,.string y.kb,.int .i64 y.iff,.slice y.vp y.vo.length y.vc,.slice y.ep y.eo.length y.ec,.slice y.pp y.po.length y.pc,.int .u64 y.stamp,.int .i64 y.num]] wr fun e w'=>e=.returned (.bool (mayEn y.en))∧Below wr.heap.size wr w'):=hid (rmay16_any y wr ((HD.out.each y HMEM.out).on HB.out))
   have h15:i+1≤16:=by omega
   clear hy hmem hat e16
   cases hm:mayEn y.en with
   | false =>
    have HF:Hid (mayRq (d.map Ex.en)=false):=hid (by
     have:(d.all fun x=>mayEn x.en)=false:=by
      rw [List.all_eq_false]
      exact ⟨y,HMEM.out,by rw [hm];simp⟩
     rw [HM.out,this];simp)
    rw [hm] at HMY
    clear hm
    go_wp2_with (first|(go_at_call 44;refine HMY.out.mono ?_;rintro e w4 ⟨rfl,hb4⟩;have HB4:=hid (HB.out.trans (hb4.mono HB.out.size));clear hb4))
    go_ret
    exact ⟨by first|(rw [HF.out];done)|(rw [HF.out];rfl),HB4.out⟩
   | true =>
    have HA2:Hid ((d.take (i+1)).all (fun x=>mayEn x.en)=true):=hid (by rw [HTK.out,List.all_append,HA.out];simp [hm])
    rw [hm] at HMY
    clear hm
    go_wp2_with (first|(go_at_call 44;refine HMY.out.mono ?_;rintro e w4 ⟨rfl,hb4⟩;have HB4:=hid (HB.out.trans (hb4.mono HB.out.size));have HQ4:=hid ((hb4.block _ (Array.getElem?_eq_some_iff.1 HQ.out).1).trans HQ.out);clear hb4))
    go_roundg (d.length-(i+1))
    case measure=>omega
    exact ⟨i+1,by go_num,HLT.out,h15,Nat.le_refl _,HB4,HQ4,HA2⟩
  ·have hltz:¬ (i:Int)<(d.length:Int):=by omega
   have HF:Hid (mayRq (d.map Ex.en)=decide (0<d.length)):=hid (by
    have:=HA.out
    rw [List.take_of_length_le (by omega)] at this
    rw [HM.out,this,decide_eq_true (by omega:d.length≤16),Bool.and_true,Bool.and_true])
   go_wp2_with fail
   go_ret
   exact ⟨by rw [HF.out];rfl,HB.out⟩
end
section
open Go.RowKit Go.Lib
theorem m0B:mayB ([]:List Fld)=true:=by decide
theorem m0E:mayE ([]:List Ed)=0:=by decide
theorem m0M:mayM ([]:List Tm)=0:=by decide
theorem s0M:sortM ([]:List Tm)=[]:=rfl
theorem mayEn_of {e:En} (h:MayP e):mayEn e=true:=by
 unfold mayEn
 simp only [Bool.and_eq_true,Bool.or_eq_true,decide_eq_true_eq]
 exact ⟨⟨⟨⟨⟨⟨⟨⟨⟨⟨⟨⟨h.k1,h.k2⟩,h.key⟩,h.tmp⟩,h.iff⟩,h.num⟩,h.stamp⟩,h.val⟩,h.mayv⟩,h.eds⟩,h.maye⟩,⟨h.mayp,h.srt⟩⟩,h.pred⟩
theorem mayO_parts' {x:Ex} (h:mayO x=true):(1≤x.kind∧x.kind≤12)∧(shapeN x.kind.toNat).all (fitPt x.en)=true∧(leftE x (shapeN x.kind.toNat)).en=(zeroEx 0).en:=by
 unfold mayO at h
 simp only [Bool.and_eq_true,decide_eq_true_eq] at h
 exact ⟨h.1.1,h.1.2,h.2⟩
set_option maxHeartbeats 4000000 in
theorem mayO_is (x:Ex):mayO x=mayEn x.en:=by
 by_cases hr:1≤x.kind∧x.kind≤12
 case neg =>
  have h1:mayO x=false:=by unfold mayO;rw [decide_eq_false hr];rfl
  have h2:mayEn x.en=false:=by
   cases hm:mayEn x.en with
   | false=>rfl
   | true=>exact absurd ⟨(mayEn_parts hm).k1,(mayEn_parts hm).k2⟩ hr
  rw [h1,h2]
 obtain ⟨k,t,a,b,i,vp,vc,vo,ep,ec,eo,pp,pc,po,s,n⟩:=x
 simp only at hr
 have hk:k=1∨k=2∨k=3∨k=4∨k=5∨k=6∨k=7∨k=8∨k=9∨k=10∨k=11∨k=12:=by omega
 clear hr
 rw [Bool.eq_iff_iff]
 constructor
 ·intro h
  obtain ⟨hr,hf,hz⟩:=mayO_parts' h
  apply mayEn_of
  rcases hk with rfl|rfl|rfl|rfl|rfl|rfl|rfl|rfl|rfl|rfl|rfl|rfl
  all_goals
   simp [shapeN,fitPt,leftE,wout,Ex.en,zeroEx,normalB] at hf hz
   constructor<;>simp_all [Ex.en,keyEn,typedK,m0B,m0E,m0M,s0M]
 ·intro h
  have hp:=mayEn_parts h
  obtain ⟨h1,h2,h3,h4,h5,h6,h7,h8,h9,h10,h11,h12,h13,h14⟩:=hp
  unfold mayO
  rcases hk with rfl|rfl|rfl|rfl|rfl|rfl|rfl|rfl|rfl|rfl|rfl|rfl
  all_goals
   simp [Ex.en,keyEn,typedK] at h1 h2 h3 h4 h5 h6 h7 h8 h9 h10 h11 h12 h13 h14
   simp [shapeN,fitPt,leftE,wout,Ex.en,zeroEx,normalB]
   simp_all
   try omega
   try exact of_decide_eq_true h3.1
end
section
open Go.RowKit Go.Lib
def Good (w:List (List UInt8)):Prop:=∀x∈w,x≠[]∧(32:UInt8) ∉ x
theorem Good.tail {x:List UInt8} {w:List (List UInt8)} (h:Good (x::w)):Good w:=fun y hy=>h y (List.mem_cons_of_mem _ hy)
theorem Good.drop {w:List (List UInt8)} (h:Good w) (n:Nat):Good (w.drop n):=fun y hy=>h y (List.mem_of_mem_drop hy)
theorem readP1 (e:En) (x:List UInt8):readP e 1 x=if x=[]∨tempB (untag x)=true then some { e with temp:=⟨(untag x).toArray⟩ } else none:=by unfold readP;simp
theorem part_key (ps:List Nat) (e:En) (w:List (List UInt8)):partsR (2::ps) e w=match w with | []=>none|x::w'=>(keyR x).bind fun k=>partsR ps { e with ka:=k.1,kb:=k.2 } w':=by
 cases w with
 | nil=>rfl
 | cons x w =>
  have hs:spanP (x::w) 2=1:=rfl
  rw [partsR,hs,if_neg (by simp)]
  simp only [List.take_succ_cons,List.take_zero,List.drop_succ_cons,List.drop_zero,joinW_one]
  have hr:readP e 2 x=(keyR x).map fun k=>{ e with ka:=k.1,kb:=k.2 }:=by unfold readP;simp
  rw [hr]
  cases keyR x<;>rfl
theorem part_typ (ps:List Nat) (e:En) (w:List (List UInt8)):partsR (3::ps) e w=match w with | []=>none|x::w'=>if typeB x=true then partsR ps { e with ka:=⟨x.toArray⟩ } w' else none:=by
 cases w with
 | nil=>rfl
 | cons x w =>
  have hs:spanP (x::w) 3=1:=rfl
  rw [partsR,hs,if_neg (by simp)]
  simp only [List.take_succ_cons,List.take_zero,List.drop_succ_cons,List.drop_zero,joinW_one]
  have hr:readP e 3 x=if typeB x=true then some { e with ka:=⟨x.toArray⟩ } else none:=by unfold readP;simp
  rw [hr]
  split<;>rfl
theorem part_num (ps:List Nat) (e:En) (w:List (List UInt8)):partsR (9::ps) e w=match w with | []=>none|x::w'=>(numL 999999999 x).bind fun n=>partsR ps { e with num:=(n:Int) } w':=by
 cases w with
 | nil=>rfl
 | cons x w =>
  have hs:spanP (x::w) 9=1:=rfl
  rw [partsR,hs,if_neg (by simp)]
  simp only [List.take_succ_cons,List.take_zero,List.drop_succ_cons,List.drop_zero,joinW_one]
  have hr:readP e 9 x=(numL 999999999 x).map fun (n:Nat)=>{ e with num:=(n:Int) }:=by unfold readP;simp
  rw [hr]
  cases numL 999999999 x<;>rfl
theorem part_stp (ps:List Nat) (e:En) (w:List (List UInt8)):partsR (10::ps) e w=match w with | []=>none|x::w'=>(numL 18446744073709551615 x).bind fun n=>partsR ps { e with stamp:=(n:Int) } w':=by
 cases w with
 | nil=>rfl
 | cons x w =>
  have hs:spanP (x::w) 10=1:=rfl
  rw [partsR,hs,if_neg (by simp)]
  simp only [List.take_succ_cons,List.take_zero,List.drop_succ_cons,List.drop_zero,joinW_one]
  have hr:readP e 10 x=(numL 18446744073709551615 x).map fun (n:Nat)=>{ e with stamp:=(n:Int) }:=by unfold readP;simp
  rw [hr]
  cases numL 18446744073709551615 x<;>rfl
theorem part_ask (ps:List Nat) (e:En) (w:List (List UInt8)):partsR (6::ps) e w=match w with | []=>none|x::w'=>if x=[63] then partsR ps e w' else none:=by
 cases w with
 | nil=>rfl
 | cons x w =>
  have hs:spanP (x::w) 6=1:=rfl
  rw [partsR,hs,if_neg (by simp)]
  simp only [List.take_succ_cons,List.take_zero,List.drop_succ_cons,List.drop_zero,joinW_one]
  have hr:readP e 6 x=if x=[63] then some e else none:=by unfold readP;simp
  rw [hr]
  split<;>rfl
theorem part_prd (ps:List Nat) (e:En) (w:List (List UInt8)) (hw:Good w):partsR (7::ps) e w=(prdR w).bind fun v=>partsR ps { e with pred:=v } []:=by
 have hs:spanP w 7=w.length:=rfl
 rw [partsR,hs,if_neg (by omega),List.take_length,List.drop_length]
 have hr:readP e 7 (joinW w)=(prdR (wordsAns (joinW w))).map fun v=>{ e with pred:=v }:=by unfold readP;simp
 rw [hr,words_join hw]
 cases prdR w<;>rfl
theorem part_eds (ps:List Nat) (e:En) (w:List (List UInt8)) (hw:Good w):partsR (8::ps) e w=(edsR w).bind fun v=>if v=[] then none else partsR ps { e with eds:=v } []:=by
 have hs:spanP w 8=w.length:=rfl
 rw [partsR,hs,if_neg (by omega),List.take_length,List.drop_length]
 have hr:readP e 8 (joinW w)=(edsR (wordsAns (joinW w))).bind fun v=>if v=[] then none else some { e with eds:=v }:=by unfold readP;simp
 rw [hr,words_join hw]
 cases edsR w with
 | none=>rfl
 | some v =>
  simp only [Option.bind_some]
  split<;>rfl
theorem part_val (ps:List Nat) (e:En) (w:List (List UInt8)) (hw:Good w):partsR (5::ps) e w=(valR (w.takeWhile fun x=>decide (x≠[63]))).bind fun v=>partsR ps { e with val:=v } (w.dropWhile fun x=>decide (x≠[63])):=by
 have hs:spanP w 5=(w.takeWhile fun x=>decide (x≠[63])).length:=rfl
 rw [partsR,hs,if_neg (by have:=while_len_all (w:=w);omega),take_while,drop_while]
 have hg:Good (w.takeWhile fun x=>decide (x≠[63])):=fun y hy=>hw y ((List.takeWhile_sublist _).mem hy)
 have hr:readP e 5 (joinW (w.takeWhile fun x=>decide (x≠[63])))=(valR (wordsAns (joinW (w.takeWhile fun x=>decide (x≠[63]))))).map fun v=>{ e with val:=v }:=by unfold readP;simp
 rw [hr,words_join hg]
 cases valR (w.takeWhile fun x=>decide (x≠[63]))<;>rfl
theorem part_tmp (ps:List Nat) (e:En) (w:List (List UInt8)):partsR (1::ps) e w=match w with
  | (64::t)::w'=>if tempB t=true then partsR ps { e with temp:=⟨t.toArray⟩ } w' else none
  | w=>partsR ps { e with temp:=⟨#[]⟩ } w:=by
 have h0:∀w:List (List UInt8),spanP w 1=0→partsR (1::ps) e w=partsR ps { e with temp:=⟨#[]⟩ } w:=fun w hs=>by
  rw [partsR,hs,if_neg (by omega),List.take_zero,List.drop_zero,joinW_nil,readP1,if_pos (Or.inl rfl)]
  rfl
 match w with
 | []=>exact h0 _ rfl
 | []::w'=>exact h0 _ rfl
 | (c::t)::w' =>
  by_cases hc:c=64
  ·subst hc
   have hs:spanP ((64::t)::w') 1=1:=rfl
   rw [partsR,hs,if_neg (by simp)]
   simp only [List.take_succ_cons,List.take_zero,List.drop_succ_cons,List.drop_zero,joinW_one]
   have hu:untag (64::t)=t:=rfl
   rw [readP1,hu]
   by_cases ht:tempB t=true
   ·rw [if_pos (Or.inr ht),if_pos ht];rfl
   ·have hno:¬ ((64::t:List UInt8)=[]∨tempB t=true):=fun q=>q.elim (fun q=>by cases q) ht
    rw [if_neg hno,if_neg ht];rfl
  ·have hs:spanP ((c::t)::w') 1=0:=by
    show (if ((some (c::t)).bind List.head?)=some 64 then 1 else 0)=0
    rw [if_neg (by simpa using hc)]
   rw [h0 _ hs]
   split
   ·rename_i heq;cases heq;exact absurd rfl hc
   ·rfl
theorem part_if (ps:List Nat) (e:En) (w:List (List UInt8)) (hw:Good w):partsR (4::ps) e w =
  if w[0]? = some [105,102] then (smallR w[1]?).bind fun n=>if n=0 then none else partsR ps { e with iff:=(n:Int) } (w.drop 2) else partsR ps { e with iff:=0 } w:=by
 have hr:∀x,readP e 4 x=(condL x).map fun (n:Nat)=>{ e with iff:=(n:Int) }:=fun x=>by unfold readP;simp
 by_cases h:w[0]? = some [105,102]
 ·rw [if_pos h]
  match w,h with
  | [x],h =>
   have hx:x=[105,102]:=by simpa using h
   subst hx
   rfl
  | x::y::w',h =>
   have hx:x=[105,102]:=by simpa using h
   subst hx
   have hs:spanP ([105,102]::y::w') 4=2:=rfl
   rw [partsR,hs,if_neg (by simp)]
   simp only [List.take_succ_cons,List.take_zero,List.drop_succ_cons,List.drop_zero,joinW_two]
   have hc:condL ([105,102]++32::y)=(numL 999999999 y).bind fun n=>if 0<n then some n else none:=by
    unfold condL
    rw [if_neg (by simp)]
    have hu:unif ([105,102]++32::y)=y:=by simp [unif,List.isPrefixOf]
    rw [hu]
   rw [hr,hc]
   show _=(numL 999999999 y).bind _
   cases numL 999999999 y with
   | none=>rfl
   | some n =>
    simp only [Option.bind_some]
    by_cases hn:n=0
    ·subst hn;rfl
    ·rw [if_pos (by omega),if_neg hn];rfl
 ·rw [if_neg h]
  have hs:spanP w 4=0:=by
   show (if w.head? = some [105,102] then 2 else 0)=0
   rw [if_neg]
   rw [List.head?_eq_getElem?];exact h
  rw [partsR,hs,if_neg (by omega),List.take_zero,List.drop_zero,joinW_nil,hr]
  rfl
theorem pk_nil (ps:List Nat) (e:En):partsR (2::ps) e []=none:=part_key ps e []
theorem pk_cons (ps:List Nat) (e:En) (x:List UInt8) (w:List (List UInt8)):partsR (2::ps) e (x::w)=(keyR x).bind fun k=>partsR ps { e with ka:=k.1,kb:=k.2 } w:=part_key ps e (x::w)
theorem pt_nil (ps:List Nat) (e:En):partsR (3::ps) e []=none:=part_typ ps e []
theorem pt_cons (ps:List Nat) (e:En) (x:List UInt8) (w:List (List UInt8)):partsR (3::ps) e (x::w)=if typeB x=true then partsR ps { e with ka:=⟨x.toArray⟩ } w else none:=part_typ ps e (x::w)
theorem pn_nil (ps:List Nat) (e:En):partsR (9::ps) e []=none:=part_num ps e []
theorem pn_cons (ps:List Nat) (e:En) (x:List UInt8) (w:List (List UInt8)):partsR (9::ps) e (x::w)=(numL 999999999 x).bind fun n=>partsR ps { e with num:=(n:Int) } w:=part_num ps e (x::w)
theorem ps_nil (ps:List Nat) (e:En):partsR (10::ps) e []=none:=part_stp ps e []
theorem ps_cons (ps:List Nat) (e:En) (x:List UInt8) (w:List (List UInt8)):partsR (10::ps) e (x::w)=(numL 18446744073709551615 x).bind fun n=>partsR ps { e with stamp:=(n:Int) } w:=part_stp ps e (x::w)
theorem pa_nil (ps:List Nat) (e:En):partsR (6::ps) e []=none:=part_ask ps e []
theorem pa_cons (ps:List Nat) (e:En) (x:List UInt8) (w:List (List UInt8)):partsR (6::ps) e (x::w)=if x=[63] then partsR ps e w else none:=part_ask ps e (x::w)
end
section
open Go.RowKit Go.Lib
def fil (o:Option En):Option En:=o.bind fun e=>if mayEn e=true then some e else none
theorem fil_yes {e:En} (h:mayEn e=true):fil (some e)=some e:=by unfold fil;rw [Option.bind_some,if_pos h]
theorem fil_no {e:En} (h:MayP e→False):fil (some e)=none:=by
 unfold fil;rw [Option.bind_some,if_neg fun q=>h (mayEn_parts q)]
def finO (o:Option (En × List (List UInt8))):Option En:=o.bind fun r=>if r.2=[] then some r.1 else none
theorem temp_hi (k:Int) (hk:2<k) (w:List (List UInt8)):tempT (zeroEn k) w=stampT (zeroEn k) w:=tempT_no _ _ fun h=>by
 exfalso
 have h':k≤2:=h
 omega
theorem stamp_lo (e:En) (h:¬ 10<e.kind) (w:List (List UInt8)):stampT e w=keyT e w:=by unfold stampT;rw [if_neg h]
theorem part_end (e:En) (w:List (List UInt8)):finO (partsR [] e w)=if w=[] then some e else none:=rfl
theorem finO_none:finO none=none:=rfl
theorem key_side (e:En) (hK:typedK e.kind=false) (ps:List Nat) (w:List (List UInt8))
  (h:∀(a b:ByteArray) (w:List (List UInt8)),Good w→keyB a b=true→finO (partsR ps { e with ka:=a,kb:=b } w)=fil (tailR { e with ka:=a,kb:=b } w)) (hw:Good w) :
  finO (partsR (2::ps) e w)=fil (keyT e w):=by
 cases w with
 | nil=>rw [pk_nil];rfl
 | cons x w =>
  rw [pk_cons,keyT_cons,hK]
  cases hx:keyR x with
  | none=>rfl
  | some k=>exact h k.1 k.2 w hw.tail (keyR_key hx)
theorem typ_side (e:En) (hK:typedK e.kind=true) (ps:List Nat) (w:List (List UInt8))
  (h:∀(x:List UInt8) (w:List (List UInt8)),Good w→(if typeB x=true then finO (partsR ps { e with ka:=⟨x.toArray⟩ } w) else none)=fil (tailR { e with ka:=⟨x.toArray⟩ } w)) (hw:Good w) :
  finO (partsR (3::ps) e w)=fil (keyT e w):=by
 cases w with
 | nil=>rw [pt_nil];rfl
 | cons x w =>
  rw [pt_cons,keyT_cons,hK,if_pos rfl,←h x w hw.tail]
  split<;>rfl
theorem t6 (e:En) (hz:MayP e) (hk:e.kind=6) (w:List (List UInt8)):finO (partsR [] e w)=fil (tailR e w):=by
 rw [part_end]
 have ht:tailR e w=if w=[] then some e else none:=by unfold tailR;simp [hk]
 rw [ht]
 split
 ·rw [fil_yes (mayEn_of hz)]
 ·rfl
theorem e6 (w:List (List UInt8)) (hw:Good w):finO (partsR [2] (zeroEn 6) w)=fil (tempT (zeroEn 6) w):=by
 rw [temp_hi 6 (by decide),stamp_lo _ (by decide)]
 refine key_side _ (by rfl) [] w (fun a b w hw hk=>t6 _ ?_ rfl w) hw
 constructor<;>simp_all [zeroEn,keyEn,typedK,m0B,m0E,m0M,s0M]
theorem e7 (w:List (List UInt8)) (hw:Good w):finO (partsR [2,9] (zeroEn 7) w)=fil (tempT (zeroEn 7) w):=by
 rw [temp_hi 7 (by decide),stamp_lo _ (by decide)]
 refine key_side _ (by rfl) [9] w (fun a b w hw hk=>?_) hw
 cases w with
 | nil=>rw [pn_nil];simp [tailR,zeroEn,finO,fil]
 | cons y w =>
  rw [pn_cons]
  cases hn:numL 999999999 y with
  | none =>
   simp only [Option.bind_none,finO_none]
   cases w<;>simp [tailR,zeroEn,smallR,hn,fil]
  | some n =>
   have hle:=numL_le hn
   rw [Option.bind_some,part_end]
   cases w with
   | nil =>
    simp [tailR,zeroEn,smallR,hn]
    rw [fil_yes]
    apply mayEn_of
    constructor<;>simp_all [keyEn,typedK,m0B,m0E,m0M,s0M]<;>omega
   | cons z w=>simp [tailR,zeroEn,fil]
theorem e9 (w:List (List UInt8)) (hw:Good w):finO (partsR [2,10] (zeroEn 9) w)=fil (tempT (zeroEn 9) w):=by
 rw [temp_hi 9 (by decide),stamp_lo _ (by decide)]
 refine key_side _ (by rfl) [10] w (fun a b w hw hk=>?_) hw
 cases w with
 | nil=>rw [ps_nil];simp [tailR,zeroEn,finO,fil]
 | cons y w =>
  rw [ps_cons]
  cases hn:numL 18446744073709551615 y with
  | none =>
   simp only [Option.bind_none,finO_none]
   cases w<;>simp [tailR,zeroEn,stampR,hn,fil]
  | some n =>
   rw [Option.bind_some,part_end]
   cases w with
   | nil =>
    simp [tailR,zeroEn,stampR,hn]
    rw [fil_yes]
    apply mayEn_of
    constructor<;>simp_all [keyEn,typedK,m0B,m0E,m0M,s0M]
   | cons z w=>simp [tailR,zeroEn,fil]
theorem e10 (w:List (List UInt8)) (hw:Good w):finO (partsR [3,10] (zeroEn 10) w)=fil (tempT (zeroEn 10) w):=by
 rw [temp_hi 10 (by decide),stamp_lo _ (by decide)]
 refine typ_side _ (by rfl) [10] w (fun x w hw=>?_) hw
 cases w with
 | nil=>rw [ps_nil];simp [tailR,zeroEn,finO,fil]
 | cons y w =>
  rw [ps_cons]
  cases hn:numL 18446744073709551615 y with
  | none =>
   simp only [Option.bind_none,finO_none]
   cases w<;>simp [tailR,zeroEn,stampR,hn,fil]
  | some n =>
   rw [Option.bind_some,part_end]
   cases w with
   | nil =>
    simp [tailR,zeroEn,stampR,hn]
    by_cases ht:typeB x=true
    ·rw [if_pos ht,fil_yes]
     apply mayEn_of
     constructor<;>simp_all [keyEn,typedK,m0B,m0E,m0M,s0M]
    ·rw [if_neg ht,fil_no]
     intro h
     have:=h.key
     simp_all [keyEn,typedK]
   | cons z w=>simp [tailR,zeroEn,fil]
theorem e8 (w:List (List UInt8)) (hw:Good w):finO (partsR [3,7] (zeroEn 8) w)=fil (tempT (zeroEn 8) w):=by
 rw [temp_hi 8 (by decide),stamp_lo _ (by decide)]
 refine typ_side _ (by rfl) [7] w (fun x w hw=>?_) hw
 rw [part_prd _ _ _ hw]
 cases hp:prdR w with
 | none=>simp [tailR,restR,zeroEn,hp,fil,finO]
 | some p =>
  obtain ⟨h1,h2⟩:=prd_may hp
  rw [Option.bind_some,part_end]
  simp [tailR,restR,zeroEn,hp]
  by_cases ht:typeB x=true
  ·rw [if_pos ht,fil_yes]
   apply mayEn_of
   constructor<;>simp_all [keyEn,typedK,m0B,m0E]
  ·rw [if_neg ht,fil_no]
   intro h
   have:=h.key
   simp_all [keyEn,typedK]
theorem e11 (w:List (List UInt8)) (hw:Good w):finO (partsR [10,2] (zeroEn 11) w)=fil (tempT (zeroEn 11) w):=by
 rw [temp_hi 11 (by decide)]
 cases w with
 | nil=>rw [ps_nil];simp [stampT,zeroEn,stampR,finO,fil]
 | cons y w =>
  rw [ps_cons]
  cases hn:numL 18446744073709551615 y with
  | none=>simp [stampT,zeroEn,stampR,hn,finO,fil]
  | some n =>
   have hst:stampT (zeroEn 11) (y::w)=keyT { zeroEn 11 with stamp:=(n:Int) } w:=by simp [stampT,zeroEn,stampR,hn]
   rw [Option.bind_some,hst]
   refine key_side _ (by rfl) [] w (fun a b w hw hk=>?_) hw.tail
   rw [part_end]
   simp [tailR,zeroEn]
   split
   ·rw [fil_yes]
    apply mayEn_of
    constructor<;>simp_all [keyEn,typedK,m0B,m0E,m0M,s0M]
   ·rfl
theorem e12 (w:List (List UInt8)) (hw:Good w):finO (partsR [10,3,7] (zeroEn 12) w)=fil (tempT (zeroEn 12) w):=by
 rw [temp_hi 12 (by decide)]
 cases w with
 | nil=>rw [ps_nil];simp [stampT,zeroEn,stampR,finO,fil]
 | cons y w =>
  rw [ps_cons]
  cases hn:numL 18446744073709551615 y with
  | none=>simp [stampT,zeroEn,stampR,hn,finO,fil]
  | some n =>
   have hst:stampT (zeroEn 12) (y::w)=keyT { zeroEn 12 with stamp:=(n:Int) } w:=by simp [stampT,zeroEn,stampR,hn]
   rw [Option.bind_some,hst]
   refine typ_side _ (by rfl) [7] w (fun x w hw=>?_) hw.tail
   rw [part_prd _ _ _ hw]
   cases hp:prdR w with
   | none=>simp [tailR,restR,zeroEn,hp,fil,finO]
   | some p =>
    obtain ⟨h1,h2⟩:=prd_may hp
    rw [Option.bind_some,part_end]
    simp [tailR,restR,zeroEn,hp]
    by_cases ht:typeB x=true
    ·rw [if_pos ht,fil_yes]
     apply mayEn_of
     constructor<;>simp_all [keyEn,typedK,m0B,m0E]
    ·rw [if_neg ht,fil_no]
     intro h
     have:=h.key
     simp_all [keyEn,typedK]
theorem if_side (e:En) (h3:3≤e.kind) (h5:e.kind≤5) (h0:e.iff=0) (ps:List Nat) (w:List (List UInt8)) (hw:Good w)
  (h:∀(n:Nat) (w:List (List UInt8)),n≤999999999→Good w→finO (partsR ps { e with iff:=(n:Int) } w)=fil (restR { e with iff:=(n:Int) } w)) :
  finO (partsR (4::ps) e w)=fil (tailR e w):=by
 have ht:tailR e w=if w[0]? = some [105,102] then (smallR w[1]?).bind fun n=>if n=0 then none else restR { e with iff:=(n:Int) } (w.drop 2) else restR e w:=by
  unfold tailR
  rw [if_neg (by omega),if_neg (by omega),if_neg (by omega)]
  by_cases hc:w[0]? = some [105,102]
  ·rw [if_pos ⟨h3,h5,hc⟩,if_pos hc]
  ·rw [if_neg (fun q=>hc q.2.2),if_neg hc]
 rw [part_if _ _ _ hw,ht]
 by_cases hc:w[0]? = some [105,102]
 ·rw [if_pos hc,if_pos hc]
  cases hn:smallR w[1]? with
  | none=>rfl
  | some n =>
   simp only [Option.bind_some]
   by_cases hz:n=0
   ·rw [if_pos hz,if_pos hz];rfl
   ·rw [if_neg hz,if_neg hz]
    have hle:n≤999999999:=by
     unfold smallR at hn
     cases hx:w[1]? with
     | none=>rw [hx] at hn;cases hn
     | some x=>rw [hx] at hn;exact numL_le hn
    exact h n _ hle (hw.drop 2)
 ·rw [if_neg hc,if_neg hc]
  have:=h 0 w (by omega) hw
  have e0:{ e with iff:=((0:Nat):Int) }=e:=by cases e;simp at h0;subst h0;rfl
  rw [e0] at this
  have e1:{ e with iff:=(0:Int) }=e:=by cases e;simp at h0;subst h0;rfl
  rw [e1];exact this
theorem e5 (w:List (List UInt8)) (hw:Good w):finO (partsR [2,4] (zeroEn 5) w)=fil (tempT (zeroEn 5) w):=by
 rw [temp_hi 5 (by decide),stamp_lo _ (by decide)]
 refine key_side _ (by rfl) [4] w (fun a b w hw hk=>if_side _ (by show (3:Int)≤5;decide) (by show (5:Int)≤5;decide) rfl [] w hw fun n w hn hw=>?_) hw
 rw [part_end]
 simp [restR,zeroEn]
 split
 ·rw [fil_yes]
  apply mayEn_of
  constructor<;>simp_all [keyEn,typedK,m0B,m0E,m0M,s0M]<;>omega
 ·rfl
theorem e4 (w:List (List UInt8)) (hw:Good w):finO (partsR [2,4,8] (zeroEn 4) w)=fil (tempT (zeroEn 4) w):=by
 rw [temp_hi 4 (by decide),stamp_lo _ (by decide)]
 refine key_side _ (by rfl) [4,8] w (fun a b w hw hk=>if_side _ (by show (3:Int)≤4;decide) (by show (4:Int)≤5;decide) rfl [8] w hw fun n w hn hw=>?_) hw
 rw [part_eds _ _ _ hw]
 cases hp:edsR w with
 | none=>simp [restR,zeroEn,hp,fil,finO]
 | some p =>
  have h1:=eds_may hp
  simp [restR,zeroEn,hp]
  by_cases hz:p=[]
  ·rw [if_pos hz,fil_no]
   ·rfl
   ·intro h
    have:=h.eds
    simp_all
  ·rw [if_neg hz,part_end,if_pos rfl,fil_yes]
   apply mayEn_of
   constructor<;>simp_all [keyEn,typedK,m0B,m0M,s0M]<;>omega
theorem val_side (w:List (List UInt8)) (hw:Good w) (e:En) (hk:e.kind=1∨e.kind=3)
  (h:∀v,mayB v=true→mayEn { e with val:=v }=true):finO (partsR [5] e w)=fil (restR e w):=by
 rw [part_val _ _ _ hw]
 have hr:restR e w=(valR w).map fun v=>{ e with val:=v }:=by unfold restR;rw [if_pos hk]
 rw [hr]
 by_cases hm:[63]∈w
 ·rw [valR_no hm]
  obtain ⟨r,hd⟩:=drop_while_at hm
  rw [hd]
  cases valR (w.takeWhile fun x=>decide (x≠[63]))<;>rfl
 ·rw [while_all hm,drop_while_no hm]
  cases hv:valR w with
  | none=>rfl
  | some v =>
   rw [Option.bind_some,part_end,if_pos rfl,Option.map_some,fil_yes (h v (val_may hv))]
theorem e3 (w:List (List UInt8)) (hw:Good w):finO (partsR [2,4,5] (zeroEn 3) w)=fil (tempT (zeroEn 3) w):=by
 rw [temp_hi 3 (by decide),stamp_lo _ (by decide)]
 refine key_side _ (by rfl) [4,5] w (fun a b w hw hk=>if_side _ (by show (3:Int)≤3;decide) (by show (3:Int)≤5;decide) rfl [5] w hw fun n w hn hw=>val_side w hw _ (Or.inr rfl) fun v hv=>?_) hw
 apply mayEn_of
 constructor<;>simp_all [zeroEn,keyEn,typedK,m0E,m0M,s0M]<;>omega
theorem tmp_side (k:Int) (h2:k≤2) (ps:List Nat) (w:List (List UInt8)) (hw:Good w)
  (h:∀(t:ByteArray) (w:List (List UInt8)),Good w→(if t=⟨#[]⟩∨tempB t.data.toList=true then finO (partsR (2::ps) { zeroEn k with temp:=t } w) else none)=fil (keyT { zeroEn k with temp:=t } w)) :
  finO (partsR (1::ps.cons 2) (zeroEn k) w)=fil (tempT (zeroEn k) w):=by
 have hlo:∀e:En,e.kind=k→∀w,stampT e w=keyT e w:=fun e he w=>stamp_lo e (by rw [he];omega) w
 rw [part_tmp]
 have h0:=h ⟨#[]⟩ w hw
 rw [if_pos (Or.inl rfl)] at h0
 match w,hw,h0 with
 | [],hw,h0=>rw [tempT_no _ _ (fun _ t w' q=>by cases q),hlo _ rfl];exact h0
 | []::w',hw,h0=>rw [tempT_no _ _ (fun _ t w'' q=>by cases q),hlo _ rfl];exact h0
 | (c::t)::w',hw,h0 =>
  by_cases hc:c=64
  ·subst hc
   have ht:tempT (zeroEn k) ((64::t)::w')=if t=[] then none else keyT { zeroEn k with temp:=⟨t.toArray⟩ } w':=by
    show (if (zeroEn k).kind≤2 then if t=[] then none else stampT { zeroEn k with temp:=⟨t.toArray⟩ } w' else stampT (zeroEn k) ((64::t)::w'))=_
    rw [if_pos (show (zeroEn k).kind≤2 from h2),hlo _ rfl]
   rw [ht]
   by_cases hz:t=[]
   ·subst hz;rfl
   ·rw [if_neg hz]
    have h1:=h ⟨t.toArray⟩ w' hw.tail
    rw [←h1]
    have hne:¬ (⟨t.toArray⟩:ByteArray)=⟨#[]⟩:=fun q=>hz (by have:=congrArg (fun b:ByteArray=>b.data.toList) q;simpa using this)
    by_cases hb:tempB t=true
    ·simp [hb]
    ·simp [hb,hne];rfl
  ·rw [tempT_no _ _ (fun _ t' w'' q=>by injection q with q1;injection q1 with q1;exact hc q1),hlo _ rfl]
   split
   ·rename_i heq;injection heq with q1;injection q1 with q1;exact absurd q1 hc
   ·exact h0
theorem e1 (w:List (List UInt8)) (hw:Good w):finO (partsR [1,2,5] (zeroEn 1) w)=fil (tempT (zeroEn 1) w):=by
 refine tmp_side 1 (by decide) [5] w hw fun t w hw=>?_
 by_cases ht:t=⟨#[]⟩∨tempB t.data.toList=true
 ·rw [if_pos ht]
  refine key_side _ (by rfl) [5] w (fun a b w hw hk=>?_) hw
  have htl:∀e:En,e.kind=1→tailR e w=restR e w:=fun e he=>by unfold tailR;simp [he]
  rw [htl _ rfl]
  refine val_side w hw _ (Or.inl rfl) fun v hv=>?_
  apply mayEn_of
  constructor<;>simp_all [zeroEn,keyEn,typedK,m0E,m0M,s0M]
 ·rw [if_neg ht]
  cases w with
  | nil=>rfl
  | cons x w =>
   rw [keyT_cons]
   cases hx:keyR x with
   | none=>rfl
   | some k =>
    have htl:∀e:En,e.kind=1→tailR e w=restR e w:=fun e he=>by unfold tailR;simp [he]
    show none=fil (tailR { zeroEn 1 with temp:=t,ka:=k.1,kb:=k.2 } w)
    rw [htl _ rfl]
    have hrs:∀e:En,e.kind=1→restR e w=(valR w).map fun v=>{ e with val:=v }:=fun e he=>by unfold restR;rw [if_pos (Or.inl he)]
    rw [hrs _ rfl]
    cases hv:valR w with
    | none=>rfl
    | some v =>
     rw [Option.map_some,fil_no]
     intro h
     have:=h.tmp
     simp_all
theorem e2 (w:List (List UInt8)) (hw:Good w):finO (partsR [1,2,5,6,7] (zeroEn 2) w)=fil (tempT (zeroEn 2) w):=by
 refine tmp_side 2 (by decide) [5,6,7] w hw fun t w hw=>?_
 have hrest:∀(e:En) (w:List (List UInt8)),e.kind=2→tailR e w=if [63]∈w then (valR (w.takeWhile fun x=>decide (x≠[63]))).bind fun v=>(prdR ((w.dropWhile fun x=>decide (x≠[63])).drop 1)).map fun p=>{ e with val:=v,pred:=p } else none:=fun e w he=>by
  unfold tailR restR;simp [he]
 by_cases ht:t=⟨#[]⟩∨tempB t.data.toList=true
 ·rw [if_pos ht]
  refine key_side _ (by rfl) [5,6,7] w (fun a b w hw hk=>?_) hw
  rw [hrest _ w rfl,part_val _ _ _ hw]
  by_cases hm:[63]∈w
  ·rw [if_pos hm]
   obtain ⟨r,hd⟩:=drop_while_at hm
   have hgr:Good r:=fun y hy=>hw y ((List.dropWhile_sublist (fun x=>decide (x≠[63]))).mem (by rw [hd];exact List.mem_cons_of_mem _ hy))
   rw [hd]
   cases hv:valR (w.takeWhile fun x=>decide (x≠[63])) with
   | none=>rfl
   | some v =>
    have h1:=val_may hv
    simp only [Option.bind_some,List.drop_succ_cons,List.drop_zero]
    rw [pa_cons,if_pos rfl,part_prd _ _ _ hgr]
    cases hp:prdR r with
    | none=>rfl
    | some p =>
     obtain ⟨h2,h3⟩:=prd_may hp
     rw [Option.bind_some,part_end,if_pos rfl,Option.map_some,fil_yes]
     apply mayEn_of
     constructor<;>simp_all [zeroEn,keyEn,typedK,m0E]
  ·rw [if_neg hm,drop_while_no hm]
   cases valR (w.takeWhile fun x=>decide (x≠[63])) with
   | none=>rfl
   | some v=>simp only [Option.bind_some];rw [pa_nil];rfl
 ·rw [if_neg ht]
  cases w with
  | nil=>rfl
  | cons x w =>
   rw [keyT_cons]
   cases hx:keyR x with
   | none=>rfl
   | some k =>
    show none=fil (tailR { zeroEn 2 with temp:=t,ka:=k.1,kb:=k.2 } w)
    rw [hrest _ w rfl]
    split
    ·cases hv:valR (w.takeWhile fun x=>decide (x≠[63])) with
     | none=>rfl
     | some v =>
      rw [Option.bind_some]
      cases hp:prdR ((w.dropWhile fun x=>decide (x≠[63])).drop 1) with
      | none=>rfl
      | some p =>
       rw [Option.map_some,fil_no]
       intro h
       have:=h.tmp
       simp_all
    ·rfl
theorem entryO_is (w:List (List UInt8)) (hw:Good w):entryO w=fil (entryR w):=by
 cases w with
 | nil=>rfl
 | cons x w =>
  rw [entryR_cons]
  show (if kindW x=0 then none else finO (partsR (shapeN (kindW x)) (zeroEn (kindW x)) w))=_
  by_cases h0:kindW x=0
  ·rw [if_pos h0,if_pos h0];rfl
  ·rw [if_neg h0,if_neg h0]
   have h12:=kindW_le x
   have hg:=hw.tail
   generalize kindW x=k at *
   have hk:k=1∨k=2∨k=3∨k=4∨k=5∨k=6∨k=7∨k=8∨k=9∨k=10∨k=11∨k=12:=by omega
   rcases hk with rfl|rfl|rfl|rfl|rfl|rfl|rfl|rfl|rfl|rfl|rfl|rfl
   ·exact e1 w hg
   ·exact e2 w hg
   ·exact e3 w hg
   ·exact e4 w hg
   ·exact e5 w hg
   ·exact e6 w hg
   ·exact e7 w hg
   ·exact e8 w hg
   ·exact e9 w hg
   ·exact e10 w hg
   ·exact e11 w hg
   ·exact e12 w hg
end
end Go.Proofs.YtjeogllmpjihaaaGreatDoor
