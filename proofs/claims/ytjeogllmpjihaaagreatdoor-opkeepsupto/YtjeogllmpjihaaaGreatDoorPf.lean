/-
  Texts of this claim, one behind the other: Oze Opz Opu Ora Orb Orc Orx Ory Ozp Pc6 Hp1 Oql Oqg Oqh Orz Oxa Ozr.
-/
import Derived.Test.YtjeogllmpjihaaaGreatDoorPe
set_option maxHeartbeats 20000000
set_option maxRecDepth 100000
namespace Go.Proofs.YtjeogllmpjihaaaGreatDoor
section
open Go.RowKit Go.Lib
structure sF (y:Ex) (kn:Nat):Prop where
 kind:y.kind=(kn:Int)
 bare:∃k tp ka kb fi st nm,y=zNN k tp ka kb fi st nm
 rng:zHR y
theorem zIg (kn:Nat) (h:kn≤12):sF (vG (kn:Int)) kn :=
 ⟨rfl,⟨_,_,_,_,_,_,_,rfl⟩,⟨Nat.zero_le _,Nat.zero_le _,Nat.zero_le _,by show _≤(kn:Int);omega,by show (kn:Int)≤_;omega,by show (-9223372036854775808:Int)≤0;decide,by show (0:Int)≤9223372036854775807;decide,by show (0:Int)≤0;decide,by show (0:Int)≤18446744073709551615;decide,by show (-9223372036854775808:Int)≤0;decide,by show (0:Int)≤9223372036854775807;decide⟩⟩
theorem sF.own {y:Ex} {kn:Nat} (h:sF y kn) (n:Nat) (w:World):xI n y w:=by
 obtain ⟨k,tp,ka,kb,fi,st,nm,rfl⟩:=h.bare
 exact ⟨(gO _ _).1,⟨Nat.zero_le _,fun x hx=>by cases hx⟩,zE.own_nil _ _ _,(show jF [] from pZ (by decide)),zE.own_nil _ _ _,(show pY [] from nJ (by decide)),h.rng⟩
theorem sF.temp {y:Ex} {kn:Nat} (h:sF y kn) (t:ByteArray) (ht:t.size≤maxLen):sF { y with temp:=t } kn:=by
 obtain ⟨k,tp,ka,kb,fi,st,nm,rfl⟩:=h.bare
 exact ⟨h.kind,⟨_,_,_,_,_,_,_,rfl⟩,{ h.rng with temp:=ht }⟩
theorem sF.stamp {y:Ex} {kn:Nat} (h:sF y kn) (t:Int) (h0:0≤t) (h1:t≤18446744073709551615):sF { y with stamp:=t } kn:=by
 obtain ⟨k,tp,ka,kb,fi,st,nm,rfl⟩:=h.bare
 exact ⟨h.kind,⟨_,_,_,_,_,_,_,rfl⟩,{ h.rng with t0:=h0,t1:=h1 }⟩
theorem sF.num {y:Ex} {kn:Nat} (h:sF y kn) (t:Int) (h0:0≤t) (h1:t≤999999999):sF { y with num:=t } kn:=by
 obtain ⟨k,tp,ka,kb,fi,st,nm,rfl⟩:=h.bare
 exact ⟨h.kind,⟨_,_,_,_,_,_,_,rfl⟩,{ h.rng with n0:=by show _≤t;omega,n1:=by show t≤_;omega }⟩
theorem sF.iff {y:Ex} {kn:Nat} (h:sF y kn) (t:Int) (h0:0≤t) (h1:t≤999999999):sF { y with iff:=t } kn:=by
 obtain ⟨k,tp,ka,kb,fi,st,nm,rfl⟩:=h.bare
 exact ⟨h.kind,⟨_,_,_,_,_,_,_,rfl⟩,{ h.rng with i0:=by show _≤t;omega,i1:=by show t≤_;omega }⟩
theorem sF.keys {y:Ex} {kn:Nat} (h:sF y kn) (a b:ByteArray) (ha:a.size≤maxLen) (hb:b.size≤maxLen):sF { y with ka:=a,kb:=b } kn:=by
 obtain ⟨k,tp,ka,kb,fi,st,nm,rfl⟩:=h.bare
 exact ⟨h.kind,⟨_,_,_,_,_,_,_,rfl⟩,{ h.rng with ka:=ha,kb:=hb }⟩
structure zDw (w V:World) (kn:Nat) (y:Ex) (o:Option En) (f:En→Option En) (ok:Bool):Prop where
 rs:vJ w (w.heap.size+1) w.heap.size V y
 bare:sF y kn
 is:o=if ok=true then f y.en else none
theorem zJK (w:World):vJ w (w.heap.size+1) w.heap.size ((w.alloc (.cells #[.int .i64 0,.string ⟨#[]⟩,.string ⟨#[]⟩,.string ⟨#[]⟩,.int .i64 0,.slice none 0 0,.slice none 0 0,.slice none 0 0,.int .u64 0,.int .i64 0] 42)).alloc (.cells #[.int .i64 0,.string ⟨#[]⟩,.string ⟨#[]⟩,.string ⟨#[]⟩,.int .i64 0,.slice none 0 0,.slice none 0 0,.slice none 0 0,.int .u64 0,.int .i64 0] 42)) (vG 0):=by
 have hb:Below w.heap.size w ((w.alloc (.cells #[.int .i64 0,.string ⟨#[]⟩,.string ⟨#[]⟩,.string ⟨#[]⟩,.int .i64 0,.slice none 0 0,.slice none 0 0,.slice none 0 0,.int .u64 0,.int .i64 0] 42)).alloc (.cells #[.int .i64 0,.string ⟨#[]⟩,.string ⟨#[]⟩,.string ⟨#[]⟩,.int .i64 0,.slice none 0 0,.slice none 0 0,.slice none 0 0,.int .u64 0,.int .i64 0] 42)):=((Below.refl _ _).alloc (Nat.le_refl _) _).alloc (by simp) _
 have h1:((w.alloc (.cells #[.int .i64 0,.string ⟨#[]⟩,.string ⟨#[]⟩,.string ⟨#[]⟩,.int .i64 0,.slice none 0 0,.slice none 0 0,.slice none 0 0,.int .u64 0,.int .i64 0] 42)).alloc (.cells #[.int .i64 0,.string ⟨#[]⟩,.string ⟨#[]⟩,.string ⟨#[]⟩,.int .i64 0,.slice none 0 0,.slice none 0 0,.slice none 0 0,.int .u64 0,.int .i64 0] 42)).heap[w.heap.size+1]? = some (.cells #[.int .i64 0,.string ⟨#[]⟩,.string ⟨#[]⟩,.string ⟨#[]⟩,.int .i64 0,.slice none 0 0,.slice none 0 0,.slice none 0 0,.int .u64 0,.int .i64 0] 42 (0,0)):=by
  have:=heap_alloc_new (w.alloc (.cells #[.int .i64 0,.string ⟨#[]⟩,.string ⟨#[]⟩,.string ⟨#[]⟩,.int .i64 0,.slice none 0 0,.slice none 0 0,.slice none 0 0,.int .u64 0,.int .i64 0] 42)) (.cells #[.int .i64 0,.string ⟨#[]⟩,.string ⟨#[]⟩,.string ⟨#[]⟩,.int .i64 0,.slice none 0 0,.slice none 0 0,.slice none 0 0,.int .u64 0,.int .i64 0] 42)
  simpa using this
 exact ⟨h1,(Below.heap_alloc _ _ _ (by simp)).trans (heap_alloc_new w _),dM _ _ 0 (by decide) (by decide),hb,by omega,Nat.le_refl _,by omega⟩
theorem zDd (p:Option Addr) (cap:Nat) (ws:List ByteArray) (w:World) (ht:wJ w p ws) (h0:0<ws.length) (hl:ws.length≤1000000000) (hcap:ws.length≤cap) (hs:∀x∈ws,x.size≤1000000000000) :
  Calls Tryz.prog 19 #[.slice p ws.length cap] w fun e w'=>EnR w (xZ (zB ws)) e w':=by
 have HS:=hid hs
 have HT:=hid ht
 obtain ⟨b,off,hp,hcc⟩:∃b off,p=some ⟨b,off,none⟩∧∀i,(h:i<ws.length)→w.cell? ⟨b,off+i,none⟩=some (.string ws[i]):=by
  rcases ht with h|⟨b,off,h1,h2⟩
  ·rw [h] at h0;simp at h0
  ·exact ⟨b,off,h1,h2⟩
 subst hp
 have HTX:Hid (∀V i x,ws[i]? = some x→Below w.heap.size w V→V.cell? ⟨b,off+i,none⟩=some (.string x)):=hid fun V i x hx hV=>by
  obtain ⟨hi,rfl⟩:=List.getElem?_eq_some_iff.1 hx
  exact kept hV (hcc i hi)
 have HTV:Hid (∀V,Below w.heap.size w V→wJ V (some ⟨b,off,none⟩) ws):=hid fun V hV=>fT HT.out hV
 obtain ⟨x,hx⟩:∃x,ws[0]? = some x:=⟨_,List.getElem?_eq_getElem h0⟩
 have HX0:Hid (zB ws=x.data.toList::zB (ws.drop 1)):=hid (by have:=jO hx;simpa using this)
 have HXA:Hid (∀V,Below w.heap.size w V→V.cell? ⟨b,off,none⟩=some (.string x)):=hid fun V hV=>by have:=HTX.out V 0 x hx hV;simpa using this
 obtain ⟨O,hO⟩:∃o,xZ (zB ws)=o:=⟨_,rfl⟩
 rw [hO]
 have HO:=hid hO
 have R0:=hid (zJK w)
 obtain ⟨W0,hW0⟩:∃W0,((w.alloc (.cells #[.int .i64 0,.string ⟨#[]⟩,.string ⟨#[]⟩,.string ⟨#[]⟩,.int .i64 0,.slice none 0 0,.slice none 0 0,.slice none 0 0,.int .u64 0,.int .i64 0] 42)).alloc (.cells #[.int .i64 0,.string ⟨#[]⟩,.string ⟨#[]⟩,.string ⟨#[]⟩,.int .i64 0,.slice none 0 0,.slice none 0 0,.slice none 0 0,.int .u64 0,.int .i64 0] 42))=W0:=⟨_,rfl⟩
 rw [hW0] at R0
 have h0z:(0:Int)<(ws.length:Int):=by omega
 clear ht hcc hx hs hO
 go_enter Tryz.func19,Tryz.ntmps19
 go_wp2_with fail
 try rw [hW0]
 clear hW0
 go_loopg [5] 13 (fun g v5 wx=>∃(k:Nat) (y:Ex),v5=.int .i64 k∧1≤k∧k≤13∧13-k≤g∧Hid (y=vG ((upK x.data.toList k:Nat):Int))∧Hid (vJ w (w.heap.size+1) w.heap.size wx y))
 case atStart=>exact ⟨1,vG 0,rfl,by omega,by omega,by omega,hid (by rw [zMR];rfl),R0⟩
 case round =>
  clear R0
  obtain ⟨k,y,rfl,hk1,hk13,hkg,HY,R⟩:=hrel
  by_cases hk:k≤12
  ·as_aux_lemma =>
   have hkz:(k:Int)≤12:=by omega
   have HNM:=hid fun W=>gL (k:Int) W (by omega) (by omega)
   obtain ⟨nb,hnb⟩:∃nb,zCB (k:Int)=nb:=⟨_,rfl⟩
   have hnd:nb.data.toList=xP k:=by rw [←hnb];rfl
   rw [hnb] at HNM
   have HND:=hid hnd
   clear hnb hnd
   have HSX:Hid (∀w',Below wr.heap.size wr w'→w'.cell? ⟨b,off,none⟩=some (.string x)):=hid fun w' h=>HXA.out w' (R.out.bel.trans (h.mono R.out.bel.size))
   have hsx:=HSX.out wr.drew (zP (Below.refl _ _) 1)
   by_cases hq:x=nb
   ·have hq2:(x.toList==nb.toList)=true:=kT hq
    have HUP:=hid (zMo (l:=x.data.toList) hk1 hk (by rw [hq,HND.out]))
    clear hq
    go_upto_region 5 with fail
    refine wp_region_held_drew (S:=fun w'=>w'.cell? ⟨b,off,none⟩=some (.string x)) (by kernel_rfl) hsx (fun hHeld=>?_)
    refine tkv 0 (.slice (some ⟨b,off,none⟩) ws.length cap) hHeld ?_
    simp only [Act.put,sz]
    refine tkv 1 (.pointer (some ⟨b,off,none⟩)) hHeld ?_
    simp only [Act.put,sz]
    refine tkv 2 (.string x) hHeld ?_
    simp only [Act.put,sz]
    refine tkv 3 (.int .i64 k) hHeld ?_
    simp only [Act.put,sz]
    refine wpAnyH_ready (rs:=[4]) (by kernel_rfl) (by simp) ?_
    refine AllReadyH.cons (yT rfl) (fun K hK=>?_) AllReadyH.nil
    rw [if_pos (by rfl)]
    go_simp
    refine (HNM.out _).mono ?_
    rintro e w3 ⟨rfl,hb3⟩
    have hb3':Below wr.heap.size wr w3:=(zP (Below.refl wr.heap.size wr) 1).trans hb3
    have q3:=HSX.out w3 hb3'
    have HB3:=hid hb3'
    clear hb3 hb3'
    go_wp2_with fail
    refine hK.out _ _ q3 (fun hHeld=>?_)
    clear hK K
    try simp only [Act.put,sz]
    refine tkv 5 (.bool true) hHeld ?_
    simp only [Act.put,sz]
    refine wpAnyH_done (by kernel_rfl) ?_ _
    clear hHeld
    have R3:=hid (R.out.on HB3.out)
    have f0:=R3.out.open 0
    have z0:w3.cell? ⟨w.heap.size+1,0,none⟩=some (.int .i64 y.kind):=R3.out.cells.1
    obtain ⟨W5,hW5⟩:∃W5,w3.setCell ⟨w.heap.size+1,0,none⟩ (.int .i64 (k:Int))=W5:=⟨_,rfl⟩
    have R5:Hid (vJ w (w.heap.size+1) w.heap.size W5 (vG (k:Int))):=hid (by
     rw [←hW5]
     refine R3.out.turn 0 _ (dM _ _ _ (by omega) (by omega)) ?_
     rw [HY.out];rfl)
    go_wp2_with fail
    try rw [hW5]
    clear hW5
    go_roundg (13-(k+1))
    case measure=>omega
    exact ⟨k+1,vG (k:Int),by go_num,by omega,by omega,by omega,hid (by rw [HUP.out]),R5⟩
   ·have hq2:(x.toList==nb.toList)=false:=wI hq
    have HUP:=hid (zNy (l:=x.data.toList) hk1 (fun q=>hq (jY (by rw [q,HND.out]))))
    clear hq
    go_upto_region 5 with fail
    refine wp_region_held_drew (S:=fun w'=>w'.cell? ⟨b,off,none⟩=some (.string x)) (by kernel_rfl) hsx (fun hHeld=>?_)
    refine tkv 0 (.slice (some ⟨b,off,none⟩) ws.length cap) hHeld ?_
    simp only [Act.put,sz]
    refine tkv 1 (.pointer (some ⟨b,off,none⟩)) hHeld ?_
    simp only [Act.put,sz]
    refine tkv 2 (.string x) hHeld ?_
    simp only [Act.put,sz]
    refine tkv 3 (.int .i64 k) hHeld ?_
    simp only [Act.put,sz]
    refine wpAnyH_ready (rs:=[4]) (by kernel_rfl) (by simp) ?_
    refine AllReadyH.cons (yT rfl) (fun K hK=>?_) AllReadyH.nil
    rw [if_pos (by rfl)]
    go_simp
    refine (HNM.out _).mono ?_
    rintro e w3 ⟨rfl,hb3⟩
    have hb3':Below wr.heap.size wr w3:=(zP (Below.refl wr.heap.size wr) 1).trans hb3
    have q3:=HSX.out w3 hb3'
    have HB3:=hid hb3'
    clear hb3 hb3'
    go_wp2_with fail
    refine hK.out _ _ q3 (fun hHeld=>?_)
    clear hK K
    try simp only [Act.put,sz]
    refine tkv 5 (.bool false) hHeld ?_
    simp only [Act.put,sz]
    refine wpAnyH_done (by kernel_rfl) ?_ _
    clear hHeld
    have R3:=hid (R.out.on HB3.out)
    go_wp2_with fail
    go_roundg (13-(k+1))
    case measure=>omega
    exact ⟨k+1,y,by go_num,by omega,by omega,by omega,hid (by rw [HUP.out];exact HY.out),R3⟩
  ·have HK13:Hid (k=13):=hid (by omega)
   have hkz:¬ (k:Int)≤12:=by omega
   obtain ⟨kn,hkn⟩:∃kn,yX x.data.toList=kn:=⟨_,rfl⟩
   have hkn12:kn≤12:=by rw [←hkn];exact cG _
   have HKN:=hid hkn
   have HB0:Hid (sF y kn):=hid (by rw [HY.out,HK13.out,zIH,hkn];exact zIg kn hkn12)
   have HYZ:Hid (y.en=zC (kn:Int)):=hid (by rw [HY.out,HK13.out,zIH,hkn];rfl)
   have HE0:Hid (O=if kn=0 then none else uP (zC (kn:Int)) (zB (ws.drop 1))):=hid (by rw [←HO.out,HX0.out,qQ,hkn])
   clear hkn HY hk1 hk13 hkg hk
   have c0:wr.cell? ⟨w.heap.size+1,0,none⟩=some (.int .i64 (kn:Int)):=by rw [R.out.cells.1,HB0.out.kind]
   by_cases k0:kn=0
   ·as_aux_lemma =>
    subst k0
    have HNO:Hid (O=none):=hid (by rw [HE0.out];rfl)
    go_upto_region 17 with fail
    clear c0
    have HRG:=hid R.out.range
    have HTH:=hid R.out.there
    obtain ⟨W4,hW4⟩:∃W4,wr.setCells w.heap.size 0 [.int .i64 y.kind,.string y.temp,.string y.ka,.string y.kb,.int .i64 y.iff,.slice y.vp y.vo.length y.vc,.slice y.ep y.eo.length y.ec,.slice y.pp y.po.length y.pc,.int .u64 y.stamp,.int .i64 y.num]=W4:=⟨_,rfl⟩
    obtain ⟨⟨g0,g1,g2,g3,g4,g5,g6,g7,g8,g9⟩,hown4,hbel4⟩:=R.out.fin W4 hW4
    have HW4:Hid (wr.setCells w.heap.size 0 (#[.int .i64 y.kind,.string y.temp,.string y.ka,.string y.kb,.int .i64 y.iff,.slice y.vp y.vo.length y.vc,.slice y.ep y.eo.length y.ec,.slice y.pp y.po.length y.pc,.int .u64 y.stamp,.int .i64 y.num]:Array Value).toList=W4):=hid hW4
    have HOW:=hid hown4
    have HBE:=hid hbel4
    clear hown4 hbel4 hW4
    go_wp2_with (first|(refine yK rfl 42 _ rfl (w.heap.size+1) 0 rfl [.int .i64 y.kind,.string y.temp,.string y.ka,.string y.kb,.int .i64 y.iff,.slice y.vp y.vo.length y.vc,.slice y.ep y.eo.length y.ec,.slice y.pp y.po.length y.pc,.int .u64 y.stamp,.int .i64 y.num] _ HRG.out Tryz.underlying42 rfl Tryz.entSize (.agg #[.int .i64 y.kind,.string y.temp,.string y.ka,.string y.kb,.int .i64 y.iff,.slice y.vp y.vo.length y.vc,.slice y.ep y.eo.length y.ec,.slice y.pp y.po.length y.pc,.int .u64 y.stamp,.int .i64 y.num]) rfl ?_)|(refine yI rfl 42 _ _ rfl w.heap.size 0 #[.int .i64 y.kind,.string y.temp,.string y.ka,.string y.kb,.int .i64 y.iff,.slice y.vp y.vo.length y.vc,.slice y.ep y.eo.length y.ec,.slice y.pp y.po.length y.pc,.int .u64 y.stamp,.int .i64 y.num] rfl rfl HTH.out Tryz.entSize (tQ y) W4 HW4.out ?_))
    exact bodyPost_ret (v:=.tuple #[.agg #[.int .i64 y.kind,.string y.temp,.string y.ka,.string y.kb,.int .i64 y.iff,.slice y.vp y.vo.length y.vc,.slice y.ep y.eo.length y.ec,.slice y.pp y.po.length y.pc,.int .u64 y.stamp,.int .i64 y.num],.bool false]) (by simp [results,Tryz.results19,go_sem,g0,g1,g2,g3,g4,g5,g6,g7,g8,g9]) rfl ⟨⟨y,false,rfl,fun _=>HOW.out,by rw [HNO.out];rfl⟩,HBE.out⟩
   have k0z:(0:Int)<(kn:Int):=by omega
   have HE1:Hid (O=uP (zC (kn:Int)) (zB (ws.drop 1))):=hid (by rw [HE0.out,if_neg k0])
   clear HE0
   obtain ⟨T,hT⟩:∃T:Bool,(decide (kn≤2)&&(match ws[1]? with|some x1=>decide (x1.data.toList.head? = some 64)|none=>false))=T:=⟨_,rfl⟩
   have HTT:=hid hT
   clear hT
   go_upto_region 9 with fail
   try rw [show decide (0<kn)=true from decide_eq_true (by omega)]
   go_cut [56] from 14 (fun v56 wx=>v56=.bool T∧Hid (vJ w (w.heap.size+1) w.heap.size wx y))
   case first =>
    as_aux_lemma =>
    by_cases h2:kn≤2
    case neg =>
     have h2z:¬ (kn:Int)≤2:=by omega
     have ET:Hid (T=false):=hid (by rw [←HTT.out,decide_eq_false h2];rfl)
     go_wp2_with fail
     go_meet
     case rel=>exact ⟨by rw [ET.out],R⟩
    have h2z:(kn:Int)≤2:=by omega
    by_cases h1:1<ws.length
    case neg =>
     have h1z:¬ (1:Int)<(ws.length:Int):=by omega
     have ET:Hid (T=false):=hid (by rw [←HTT.out,List.getElem?_eq_none (by omega)];simp)
     go_wp2_with fail
     go_meet
     case rel=>exact ⟨by rw [ET.out],R⟩
    have h1z:(1:Int)<(ws.length:Int):=by omega
    obtain ⟨x1,hx1⟩:∃x1,ws[1]? = some x1:=⟨_,List.getElem?_eq_getElem h1⟩
    have cx:=HTX.out wr 1 x1 hx1 R.out.bel
    have HT1:Hid (T=decide (x1.data.toList.head? = some 64)):=hid (by rw [←HTT.out,hx1,decide_eq_true h2];rfl)
    have hsz:=HS.out x1 (List.mem_of_getElem? hx1)
    clear hx1
    by_cases hz:0<x1.size
    case neg =>
     have hzz:¬ (0:Int)<(x1.size:Int):=by omega
     have ET:Hid (T=false):=hid (by
      rw [HT1.out]
      have:x1.data.toList=[]:=List.length_eq_zero_iff.1 (by have:x1.data.toList.length=x1.size:=rfl;omega)
      rw [this];rfl)
     go_wp2_with fail
     go_meet
     case rel=>exact ⟨by rw [ET.out],R⟩
    have hzz:(0:Int)<(x1.size:Int):=by omega
    obtain ⟨c,hc⟩:∃c,x1[0]=c:=⟨_,rfl⟩
    have HC:Hid (T=decide (c=64)):=hid (by
     rw [HT1.out,List.head?_eq_getElem?,List.getElem?_eq_getElem (by simpa using hz),qD x1 0 hz,hc]
     simp)
    by_cases h64:c=64
    ·have b64:(((c.toNat:Nat):Int)==64)=true:=by rw [h64];rfl
     have ET:Hid (T=true):=hid (by rw [HC.out,decide_eq_true h64])
     clear h64
     go_wp2_with fail
     go_meet
     case rel=>exact ⟨by rw [ET.out],R⟩
    ·have b64:(((c.toNat:Nat):Int)==64)=false:=by
      rw [beq_eq_false_iff_ne]
      intro q
      exact h64 (UInt8.toNat_inj.1 (by rw [show c.toNat=64 by omega];rfl))
     have ET:Hid (T=false):=hid (by rw [HC.out,decide_eq_false h64])
     clear h64
     go_wp2_with fail
     go_meet
     case rel=>exact ⟨by rw [ET.out],R⟩
   case rest =>
   obtain ⟨rfl,R1⟩:=hcut
   clear c0 R
   go_upto_if 56 with fail
   go_cut [6,7] from 14 (fun v6 v7 wx=>∃(m:Nat) (ok:Bool) (y1:Ex),v6=.int .i64 m∧v7=.bool ok∧m≤2∧Hid (zDw w wx kn y1 O (fun e=>yS e (zB (ws.drop m))) ok))
   case first =>
    as_aux_lemma =>
    cases T with
    | false =>
     have HU:Hid (zDw w wc kn y O (fun e=>yS e (zB (ws.drop 1))) true):=hid ⟨R1.out,HB0.out,by
      rw [HE1.out,if_pos rfl,HYZ.out]
      have hq:=HTT.out
      cases hw:zB (ws.drop 1) with
      | nil=>rfl
      | cons z r =>
       cases z with
       | nil=>rfl
       | cons c t =>
        by_cases hc:c=64
        ·subst hc
         by_cases h2:kn≤2
         ·exfalso
          rw [decide_eq_true h2,Bool.true_and] at hq
          cases h1:ws[1]? with
          | none =>
           rw [dC (by rw [List.getElem?_eq_none_iff] at h1;exact h1)] at hw
           cases hw
          | some x1 =>
           rw [jO h1] at hw
           injection hw with hw1 _
           rw [h1] at hq
           simp [hw1] at hq
         ·show (if (zC (kn:Int)).kind≤2 then _ else yS (zC (kn:Int)) ((64::t)::r))=_
          rw [if_neg (by show ¬ (kn:Int)≤2;omega)]
        ·unfold uP
         split
         ·rename_i heq
          injection heq with h1 _
          injection h1 with h2 _
          exact absurd h2 hc
         ·rfl⟩
     go_wp2_with fail
     go_meet
     case rel=>exact ⟨1,true,y,rfl,rfl,by omega,HU⟩
    | true =>
     obtain ⟨h2,x1,hx1,hh⟩:kn≤2∧∃x1,ws[1]? = some x1∧x1.data.toList.head? = some 64:=by
      have hq:=HTT.out
      rw [Bool.and_eq_true,decide_eq_true_eq] at hq
      cases h1:ws[1]? with
      | none=>rw [h1] at hq;simp at hq
      | some x1=>rw [h1] at hq;exact ⟨hq.1,x1,rfl,by simpa using hq.2⟩
     have h1:1<ws.length:=(List.getElem?_eq_some_iff.1 hx1).1
     have h1z:(1:Int)<(ws.length:Int):=by omega
     have cx:=HTX.out wc 1 x1 hx1 R1.out.bel
     have hsz:=HS.out x1 (List.mem_of_getElem? hx1)
     obtain ⟨t,htl⟩:∃t,x1.data.toList=64::t:=by
      cases hl:x1.data.toList with
      | nil=>rw [hl] at hh;cases hh
      | cons c t=>rw [hl] at hh;cases hh;exact ⟨t,rfl⟩
     have hzz:(1:Int)≤(x1.size:Int):=by
      have:x1.data.toList.length=x1.size:=rfl
      rw [htl] at this;simp at this;omega
     obtain ⟨tb,htb⟩:∃tb,x1.extract 1 x1.size=tb:=⟨_,rfl⟩
     have htd:tb.data.toList=t:=by rw [←htb,jH,htl];rfl
     have hts:tb.size≤1000000000000:=by
      have e1:tb.data.toList.length=tb.size:=rfl
      have e2:x1.data.toList.length=x1.size:=rfl
      rw [htd] at e1;rw [htl] at e2;simp at e2;omega
     have f1:=R1.out.open 1
     have z1:wc.cell? ⟨w.heap.size+1,1,none⟩=some (.string y.temp):=R1.out.cells.2.1
     obtain ⟨y1,hy1⟩:∃q:Ex,q={ y with temp:=tb }:=⟨_,rfl⟩
     have hbr:sF y1 kn:=by rw [hy1];exact HB0.out.temp tb (by unfold maxLen;omega)
     obtain ⟨W5,hW5⟩:∃W5,wc.setCell ⟨w.heap.size+1,1,none⟩ (.string tb)=W5:=⟨_,rfl⟩
     have R5:Hid (vJ w (w.heap.size+1) w.heap.size W5 y1):=hid (by
      rw [←hW5]
      exact R1.out.turn 1 _ (hbr.own _ _) (by rw [hy1];rfl))
     have z2:W5.cell? ⟨w.heap.size+1,1,none⟩=some (.string tb):=by rw [R5.out.cells.2.1,hy1]
     have HBR:=hid hbr
     have HLS:Hid (zB (ws.drop 1)=(64::t)::zB (ws.drop 2)):=hid (by rw [jO hx1,htl])
     have HTD:=hid htd
     have HTB:=hid htb
     have HY1:=hid hy1
     clear hbr htl hh hx1 htd hy1
     by_cases hte:t=[]
     ·have hie:tb.toList.isEmpty=true:=by rw [Lib.toList_data,HTD.out,hte];rfl
      have HU:Hid (zDw w W5 kn y1 O (fun e=>yS e (zB (ws.drop 2))) false):=hid ⟨R5.out,HBR.out,by
       rw [HE1.out,HLS.out,hte]
       show (if (zC (kn:Int)).kind≤2 then if ([]:List UInt8)=[] then none else _ else _)=_
       rw [if_pos (by show (kn:Int)≤2;omega),if_pos rfl]
       rfl⟩
      clear hte
      go_wp2_with fail
      try rw [hW5]
      go_meet
      case rel=>exact ⟨2,false,y1,rfl,rfl,by omega,HU⟩
     ·have hie:tb.toList.isEmpty=false:=pJ (fun q=>hte (by first|(rw [←HTD.out,q];done)|(rw [←HTD.out,q];rfl)))
      have HU:Hid (zDw w W5 kn y1 O (fun e=>yS e (zB (ws.drop 2))) true):=hid ⟨R5.out,HBR.out,by
       rw [HE1.out,HLS.out,if_pos rfl]
       show (if (zC (kn:Int)).kind≤2 then if t=[] then none else yS { zC (kn:Int) with temp:=⟨t.toArray⟩ } _ else _)=_
       rw [if_pos (by show (kn:Int)≤2;omega),if_neg hte]
       have:y1.en={ zC (kn:Int) with temp:=⟨t.toArray⟩ }:=by
        rw [HY1.out,←HYZ.out]
        have:tb=⟨t.toArray⟩:=jY HTD.out
        rw [this];rfl
       rw [this]⟩
      clear hte
      go_wp2_with fail
      try rw [hW5]
      go_meet
      case rel=>exact ⟨2,true,y1,rfl,rfl,by omega,HU⟩
   case rest =>
   obtain ⟨m,ok,y1,rfl,rfl,hm,U1⟩:=hcut
   clear R1 HB0 HYZ HE1 HTT
   have c0:wc.cell? ⟨w.heap.size+1,0,none⟩=some (.int .i64 (kn:Int)):=by rw [U1.out.rs.cells.1,U1.out.bare.kind]
   go_upto_region 13 with fail
   go_cut [73] from 14 (fun v73 wx=>v73=.bool (ok&&decide (10<kn))∧Hid (zDw w wx kn y1 O (fun e=>yS e (zB (ws.drop m))) ok))
   case first =>
    as_aux_lemma =>
    cases ok with
    | false =>
     go_wp2_with fail
     go_meet
     case rel=>exact ⟨rfl,U1⟩
    | true =>
     by_cases h10:10<kn
     ·have hz:(10:Int)<(kn:Int):=by omega
      have E:Hid ((true&&decide (10<kn))=true):=hid (by rw [decide_eq_true h10];rfl)
      go_wp2_with fail
      go_meet
      case rel=>exact ⟨by rw [E.out],U1⟩
     ·have hz:¬ (10:Int)<(kn:Int):=by omega
      have E:Hid ((true&&decide (10<kn))=false):=hid (by rw [decide_eq_false h10];rfl)
      go_wp2_with fail
      go_meet
      case rel=>exact ⟨by rw [E.out],U1⟩
   case rest =>
   obtain ⟨rfl,U2⟩:=hcut
   clear c0 U1
   go_upto_if 73 with fail
   go_cut [6,7] from 14 (fun v6 v7 wx=>∃(m:Nat) (ok:Bool) (y1:Ex),v6=.int .i64 m∧v7=.bool ok∧m≤3∧Hid (zDw w wx kn y1 O (fun e=>qY e (zB (ws.drop m))) ok))
   case first =>
    as_aux_lemma =>
    by_cases hg:ok=true∧10<kn
    ·obtain ⟨rfl,h10⟩:=hg
     have e1:(true&&decide (10<kn))=true:=by rw [decide_eq_true h10];rfl
     rw [e1]
     have HST:=hid (cH (some ⟨b,off,none⟩) cap ws m wc (HTV.out _ U2.out.rs.bel) HS.out (by omega))
     obtain ⟨so,hso⟩:∃so,xY ((ws.map (·.data.toList))[m]?)=so:=⟨_,rfl⟩
     have hsl:((so.getD 0:Nat):Int)≤18446744073709551615:=by
      cases so with
      | none=>show (0:Int)≤_;decide
      | some n=>have:=zCq hso;show (n:Int)≤_;omega
     have HIS:Hid (O=so.bind fun n=>qY { y1.en with stamp:=(n:Int) } (zB (ws.drop (m+1)))):=hid (by
      rw [U2.out.is,if_pos rfl]
      show yS y1.en _=_
      unfold yS
      rw [if_pos (by show 10<y1.kind;rw [U2.out.bare.kind];omega),cS,hso]
      congr 1
      funext n
      unfold zB;rw [←List.map_drop,List.drop_drop,List.map_drop])
     rw [hso] at HST
     unfold zA6 at HST
     obtain ⟨sn,hsn⟩:∃sn:Nat,so.getD 0=sn:=⟨_,rfl⟩
     rw [hsn] at HST hsl
     have f8:=U2.out.rs.open 8
     have z8:wc.cell? ⟨w.heap.size+1,8,none⟩=some (.int .u64 y1.stamp):=U2.out.rs.cells.2.2.2.2.2.2.2.2.1
     obtain ⟨y2,hy2⟩:∃q:Ex,q={ y1 with stamp:=(sn:Int) }:=⟨_,rfl⟩
     have hbr:sF y2 kn:=by rw [hy2];exact U2.out.bare.stamp _ (by omega) hsl
     obtain ⟨W5,hW5⟩:∃W5,wc.setCell ⟨w.heap.size+1,8,none⟩ (.int .u64 (sn:Int))=W5:=⟨_,rfl⟩
     have R5:Hid (vJ w (w.heap.size+1) w.heap.size W5 y2):=hid (by
      rw [←hW5]
      exact U2.out.rs.turn 8 _ (hbr.own _ _) (by rw [hy2];rfl))
     have HBR:=hid hbr
     have HY2:=hid hy2
     have HSN:=hid hsn
     clear hbr hy2 hso e1 hsn
     cases so with
     | none =>
      have HU:Hid (zDw w W5 kn y2 O (fun e=>qY e (zB (ws.drop (m+1)))) false):=hid ⟨R5.out,HBR.out,by rw [HIS.out];rfl⟩
      go_wp2_with fail
      refine HST.out.mono ?_
      rintro e w7 ⟨rfl,rfl⟩
      go_wp2_with fail
      try rw [hW5]
      go_meet
      case rel=>exact ⟨m+1,false,y2,by go_num,rfl,by omega,HU⟩
     | some n =>
      have HU:Hid (zDw w W5 kn y2 O (fun e=>qY e (zB (ws.drop (m+1)))) true):=hid ⟨R5.out,HBR.out,by
       rw [HIS.out,if_pos rfl,HY2.out]
       have:n=sn:=HSN.out
       rw [←this];rfl⟩
      go_wp2_with fail
      refine HST.out.mono ?_
      rintro e w7 ⟨rfl,rfl⟩
      go_wp2_with fail
      try rw [hW5]
      go_meet
      case rel=>exact ⟨m+1,true,y2,by go_num,rfl,by omega,HU⟩
    ·have e1:(ok&&decide (10<kn))=false:=by
      cases ok with
      | false=>rfl
      | true =>
       have:¬ 10<kn:=fun q=>hg ⟨rfl,q⟩
       rw [decide_eq_false this];rfl
     rw [e1]
     have HU:Hid (zDw w wc kn y1 O (fun e=>qY e (zB (ws.drop m))) ok):=hid ⟨U2.out.rs,U2.out.bare,by
      rw [U2.out.is]
      cases ok with
      | false=>rfl
      | true =>
       have:¬ 10<kn:=fun q=>hg ⟨rfl,q⟩
       rw [if_pos rfl,if_pos rfl]
       show yS y1.en _=qY y1.en _
       unfold yS
       rw [if_neg (by show ¬ 10<y1.kind;rw [U2.out.bare.kind];omega)]⟩
     clear e1 hg
     go_wp2_with fail
     go_meet
     case rel=>exact ⟨m,ok,y1,rfl,rfl,by omega,HU⟩
   case rest =>
   obtain ⟨m2,ok2,y2,rfl,rfl,hm2,U3⟩:=hcut
   clear U2 hm
   cases ok2 with
   | false =>
    as_aux_lemma =>
    have R:=hid U3.out.rs
    have HNO:Hid (O=none):=hid U3.out.is
    go_upto_region 17 with fail
    have HRG:=hid R.out.range
    have HTH:=hid R.out.there
    obtain ⟨W4,hW4⟩:∃W4,wc.setCells w.heap.size 0 [.int .i64 y2.kind,.string y2.temp,.string y2.ka,.string y2.kb,.int .i64 y2.iff,.slice y2.vp y2.vo.length y2.vc,.slice y2.ep y2.eo.length y2.ec,.slice y2.pp y2.po.length y2.pc,.int .u64 y2.stamp,.int .i64 y2.num]=W4:=⟨_,rfl⟩
    obtain ⟨⟨g0,g1,g2,g3,g4,g5,g6,g7,g8,g9⟩,hown4,hbel4⟩:=R.out.fin W4 hW4
    have HW4:Hid (wc.setCells w.heap.size 0 (#[.int .i64 y2.kind,.string y2.temp,.string y2.ka,.string y2.kb,.int .i64 y2.iff,.slice y2.vp y2.vo.length y2.vc,.slice y2.ep y2.eo.length y2.ec,.slice y2.pp y2.po.length y2.pc,.int .u64 y2.stamp,.int .i64 y2.num]:Array Value).toList=W4):=hid hW4
    have HOW:=hid hown4
    have HBE:=hid hbel4
    clear hown4 hbel4 hW4
    go_wp2_with (first|(refine yK rfl 42 _ rfl (w.heap.size+1) 0 rfl [.int .i64 y2.kind,.string y2.temp,.string y2.ka,.string y2.kb,.int .i64 y2.iff,.slice y2.vp y2.vo.length y2.vc,.slice y2.ep y2.eo.length y2.ec,.slice y2.pp y2.po.length y2.pc,.int .u64 y2.stamp,.int .i64 y2.num] _ HRG.out Tryz.underlying42 rfl Tryz.entSize (.agg #[.int .i64 y2.kind,.string y2.temp,.string y2.ka,.string y2.kb,.int .i64 y2.iff,.slice y2.vp y2.vo.length y2.vc,.slice y2.ep y2.eo.length y2.ec,.slice y2.pp y2.po.length y2.pc,.int .u64 y2.stamp,.int .i64 y2.num]) rfl ?_)|(refine yI rfl 42 _ _ rfl w.heap.size 0 #[.int .i64 y2.kind,.string y2.temp,.string y2.ka,.string y2.kb,.int .i64 y2.iff,.slice y2.vp y2.vo.length y2.vc,.slice y2.ep y2.eo.length y2.ec,.slice y2.pp y2.po.length y2.pc,.int .u64 y2.stamp,.int .i64 y2.num] rfl rfl HTH.out Tryz.entSize (tQ y2) W4 HW4.out ?_))
    exact bodyPost_ret (v:=.tuple #[.agg #[.int .i64 y2.kind,.string y2.temp,.string y2.ka,.string y2.kb,.int .i64 y2.iff,.slice y2.vp y2.vo.length y2.vc,.slice y2.ep y2.eo.length y2.ec,.slice y2.pp y2.po.length y2.pc,.int .u64 y2.stamp,.int .i64 y2.num],.bool false]) (by simp [results,Tryz.results19,go_sem,g0,g1,g2,g3,g4,g5,g6,g7,g8,g9]) rfl ⟨⟨y2,false,rfl,fun _=>HOW.out,by rw [HNO.out];rfl⟩,HBE.out⟩
   | true =>
   by_cases hlt:m2<ws.length
   case neg =>
    as_aux_lemma =>
    have hltz:(ws.length:Int)≤(m2:Int):=by omega
    have R:=hid U3.out.rs
    have HNO:Hid (O=none):=hid (by rw [U3.out.is,if_pos rfl];show qY y2.en _=none;rw [dC (by omega)];rfl)
    go_upto_region 17 with fail
    have HRG:=hid R.out.range
    have HTH:=hid R.out.there
    obtain ⟨W4,hW4⟩:∃W4,wc.setCells w.heap.size 0 [.int .i64 y2.kind,.string y2.temp,.string y2.ka,.string y2.kb,.int .i64 y2.iff,.slice y2.vp y2.vo.length y2.vc,.slice y2.ep y2.eo.length y2.ec,.slice y2.pp y2.po.length y2.pc,.int .u64 y2.stamp,.int .i64 y2.num]=W4:=⟨_,rfl⟩
    obtain ⟨⟨g0,g1,g2,g3,g4,g5,g6,g7,g8,g9⟩,hown4,hbel4⟩:=R.out.fin W4 hW4
    have HW4:Hid (wc.setCells w.heap.size 0 (#[.int .i64 y2.kind,.string y2.temp,.string y2.ka,.string y2.kb,.int .i64 y2.iff,.slice y2.vp y2.vo.length y2.vc,.slice y2.ep y2.eo.length y2.ec,.slice y2.pp y2.po.length y2.pc,.int .u64 y2.stamp,.int .i64 y2.num]:Array Value).toList=W4):=hid hW4
    have HOW:=hid hown4
    have HBE:=hid hbel4
    clear hown4 hbel4 hW4
    go_wp2_with (first|(refine yK rfl 42 _ rfl (w.heap.size+1) 0 rfl [.int .i64 y2.kind,.string y2.temp,.string y2.ka,.string y2.kb,.int .i64 y2.iff,.slice y2.vp y2.vo.length y2.vc,.slice y2.ep y2.eo.length y2.ec,.slice y2.pp y2.po.length y2.pc,.int .u64 y2.stamp,.int .i64 y2.num] _ HRG.out Tryz.underlying42 rfl Tryz.entSize (.agg #[.int .i64 y2.kind,.string y2.temp,.string y2.ka,.string y2.kb,.int .i64 y2.iff,.slice y2.vp y2.vo.length y2.vc,.slice y2.ep y2.eo.length y2.ec,.slice y2.pp y2.po.length y2.pc,.int .u64 y2.stamp,.int .i64 y2.num]) rfl ?_)|(refine yI rfl 42 _ _ rfl w.heap.size 0 #[.int .i64 y2.kind,.string y2.temp,.string y2.ka,.string y2.kb,.int .i64 y2.iff,.slice y2.vp y2.vo.length y2.vc,.slice y2.ep y2.eo.length y2.ec,.slice y2.pp y2.po.length y2.pc,.int .u64 y2.stamp,.int .i64 y2.num] rfl rfl HTH.out Tryz.entSize (tQ y2) W4 HW4.out ?_))
    exact bodyPost_ret (v:=.tuple #[.agg #[.int .i64 y2.kind,.string y2.temp,.string y2.ka,.string y2.kb,.int .i64 y2.iff,.slice y2.vp y2.vo.length y2.vc,.slice y2.ep y2.eo.length y2.ec,.slice y2.pp y2.po.length y2.pc,.int .u64 y2.stamp,.int .i64 y2.num],.bool false]) (by simp [results,Tryz.results19,go_sem,g0,g1,g2,g3,g4,g5,g6,g7,g8,g9]) rfl ⟨⟨y2,false,rfl,fun _=>HOW.out,by rw [HNO.out];rfl⟩,HBE.out⟩
   have hltz:¬ (ws.length:Int)≤(m2:Int):=by omega
   have hltz2:(m2:Int)<(ws.length:Int):=by omega
   have hmz:(0:Int)≤(m2:Int):=by omega
   obtain ⟨x2,hx2⟩:∃x2,ws[m2]? = some x2:=⟨_,List.getElem?_eq_getElem hlt⟩
   have HSZ2:=hid (HS.out x2 (List.mem_of_getElem? hx2))
   have HK3:Hid (O=qY y2.en (x2.data.toList::zB (ws.drop (m2+1)))):=hid (by rw [U3.out.is,if_pos rfl];show qY y2.en _=_;rw [jO hx2])
   have cx2:=HTX.out wc m2 x2 hx2 U3.out.rs.bel
   have c0:wc.cell? ⟨w.heap.size+1,0,none⟩=some (.int .i64 (kn:Int)):=by rw [U3.out.rs.cells.1,U3.out.bare.kind]
   clear hx2
   have HB:=hid U3.out.bare
   have R:=hid U3.out.rs
   go_upto_region 18 with fail
   go_cut [104] from 14 (fun v104 wx=>v104=.bool (yQ (kn:Int))∧wc=wx)
   case first =>
    as_aux_lemma =>
    by_cases k8:kn=8
    ·subst k8
     go_wp2_with fail
     go_meet
     case rel=>exact ⟨rfl,rfl⟩
    have b8:((kn:Int)==8)=false:=by rw [beq_eq_false_iff_ne];omega
    by_cases k10:kn=10
    ·subst k10
     clear b8
     go_wp2_with fail
     go_meet
     case rel=>exact ⟨rfl,rfl⟩
    have b10:((kn:Int)==10)=false:=by rw [beq_eq_false_iff_ne];omega
    by_cases k12:kn=12
    ·subst k12
     clear b8 b10
     go_wp2_with fail
     go_meet
     case rel=>exact ⟨rfl,rfl⟩
    have b12:((kn:Int)==12)=false:=by rw [beq_eq_false_iff_ne];omega
    have E:Hid (yQ (kn:Int)=false):=hid (by unfold yQ;rw [decide_eq_false (by omega),decide_eq_false (by omega),decide_eq_false (by omega)];rfl)
    go_wp2_with fail
    go_meet
    case rel=>exact ⟨by rw [E.out],rfl⟩
   case rest =>
   obtain ⟨rfl,rfl⟩:=hcut
   go_upto_if 104 with fail
   go_cut [8,9] from 14 (fun _ _ wx=>∃y3,Hid (vJ w (w.heap.size+1) w.heap.size wx y3)∧Hid (sF y3 kn)∧Hid (O=zX y3.en (zB (ws.drop (m2+1)))))
   case first =>
    as_aux_lemma =>
    cases ht:yQ (kn:Int) with
    | true =>
     have HKT:Hid (O=zX { y2.en with ka:=⟨x2.data.toList.toArray⟩ } (zB (ws.drop (m2+1)))):=hid (by
      have hk:y2.en.kind=(kn:Int):=HB.out.kind
      rw [HK3.out,zJ9 (by rw [hk];exact ht)])
     clear ht c0
     have f1:=R.out.open 2
     have z1:wc.cell? ⟨w.heap.size+1,2,none⟩=some (.string y2.ka):=by rw [Lib.cell_of_heap R.out.box];rfl
     obtain ⟨y3,hzz⟩:∃q:Ex,q={ y2 with ka:=x2 }:=⟨_,rfl⟩
     have hbr:sF y3 kn:=by rw [hzz];exact (by
       have h:=HB.out.keys x2 y2.kb (by have:=HSZ2.out;unfold maxLen;omega) HB.out.rng.kb
       exact h)
     obtain ⟨W5,hW5⟩:∃W',wc.setCell ⟨w.heap.size+1,2,none⟩ (.string x2)=W':=⟨_,rfl⟩
     have R5:Hid (vJ w (w.heap.size+1) w.heap.size W5 y3):=hid (by
      rw [←hW5]
      exact R.out.turn 2 _ (hbr.own _ _) (by rw [hzz];rfl))
     have HB5:=hid hbr
     have HZZ:=hid hzz
     clear hbr hzz
     have HT5:Hid (O=zX y3.en (zB (ws.drop (m2+1)))):=hid (by
      rw [HKT.out,HZZ.out]
      have:(⟨x2.data.toList.toArray⟩:ByteArray)=x2:=zNT x2
      rw [this];rfl)
     go_wp2_with fail
     try rw [hW5]
     go_meet
     case rel=>exact ⟨y3,R5,HB5,HT5⟩
    | false =>
     have HKT:Hid (O=(tJ x2.data.toList).bind fun k=>zX { y2.en with ka:=k.1,kb:=k.2 } (zB (ws.drop (m2+1)))):=hid (by
      have hk:y2.en.kind=(kn:Int):=HB.out.kind
      rw [HK3.out,zJL (by rw [hk];exact ht)])
     have HPK:=hid (zF4 x2 wc (by have:=HSZ2.out;unfold maxLen;omega))
     clear ht c0
     go_wp2_with fail
     refine HPK.out.mono ?_
     rintro e w7 ⟨⟨ka,kb,kc,rfl,hkc⟩,hb7⟩
     have hb8:Below wc.heap.size wc (w7.alloc (.cells #[.string ka,.string kb] 36)):=hb7.alloc hb7.size _
     have R8:=hid (R.out.on hb8)
     obtain ⟨G,hG⟩:∃G,w7.heap.size=G:=⟨_,rfl⟩
     obtain ⟨W8,hW8⟩:∃W8,w7.alloc (.cells #[.string ka,.string kb] 36)=W8:=⟨_,rfl⟩
     rw [hW8] at R8
     have hk8:W8.heap[G]? = some (.cells #[.string ka,.string kb] 36 (0,0)):=by rw [←hW8,←hG];exact heap_alloc_new w7 _
     obtain ⟨ky0,ky1,_,_⟩:=zL hk8
     clear hb7 hb8 hk8 HPK cx2
     rcases hkc with ⟨rfl,hkr⟩|⟨rfl,hkr⟩
     case inr =>
      as_aux_lemma =>
      have HNO:Hid (O=none):=hid (by rw [HKT.out,hkr];rfl)
      clear hkr
      go_upto_region 22 with fail
      try rw [hW8]
      clear hW8
      have HRG:=hid R8.out.range
      have HTH:=hid R8.out.there
      obtain ⟨W4,hW4⟩:∃W4,W8.setCells w.heap.size 0 [.int .i64 y2.kind,.string y2.temp,.string y2.ka,.string y2.kb,.int .i64 y2.iff,.slice y2.vp y2.vo.length y2.vc,.slice y2.ep y2.eo.length y2.ec,.slice y2.pp y2.po.length y2.pc,.int .u64 y2.stamp,.int .i64 y2.num]=W4:=⟨_,rfl⟩
      obtain ⟨⟨g0,g1,g2,g3,g4,g5,g6,g7,g8,g9⟩,hown4,hbel4⟩:=R8.out.fin W4 hW4
      have HW4:Hid (W8.setCells w.heap.size 0 (#[.int .i64 y2.kind,.string y2.temp,.string y2.ka,.string y2.kb,.int .i64 y2.iff,.slice y2.vp y2.vo.length y2.vc,.slice y2.ep y2.eo.length y2.ec,.slice y2.pp y2.po.length y2.pc,.int .u64 y2.stamp,.int .i64 y2.num]:Array Value).toList=W4):=hid hW4
      have HOW:=hid hown4
      have HBE:=hid hbel4
      clear hown4 hbel4 hW4
      go_wp2_with (first|(refine yK rfl 42 _ rfl (w.heap.size+1) 0 rfl [.int .i64 y2.kind,.string y2.temp,.string y2.ka,.string y2.kb,.int .i64 y2.iff,.slice y2.vp y2.vo.length y2.vc,.slice y2.ep y2.eo.length y2.ec,.slice y2.pp y2.po.length y2.pc,.int .u64 y2.stamp,.int .i64 y2.num] _ HRG.out Tryz.underlying42 rfl Tryz.entSize (.agg #[.int .i64 y2.kind,.string y2.temp,.string y2.ka,.string y2.kb,.int .i64 y2.iff,.slice y2.vp y2.vo.length y2.vc,.slice y2.ep y2.eo.length y2.ec,.slice y2.pp y2.po.length y2.pc,.int .u64 y2.stamp,.int .i64 y2.num]) rfl ?_)|(refine yI rfl 42 _ _ rfl w.heap.size 0 #[.int .i64 y2.kind,.string y2.temp,.string y2.ka,.string y2.kb,.int .i64 y2.iff,.slice y2.vp y2.vo.length y2.vc,.slice y2.ep y2.eo.length y2.ec,.slice y2.pp y2.po.length y2.pc,.int .u64 y2.stamp,.int .i64 y2.num] rfl rfl HTH.out Tryz.entSize (tQ y2) W4 HW4.out ?_))
      exact bodyPost_ret (v:=.tuple #[.agg #[.int .i64 y2.kind,.string y2.temp,.string y2.ka,.string y2.kb,.int .i64 y2.iff,.slice y2.vp y2.vo.length y2.vc,.slice y2.ep y2.eo.length y2.ec,.slice y2.pp y2.po.length y2.pc,.int .u64 y2.stamp,.int .i64 y2.num],.bool false]) (by simp [results,Tryz.results19,go_sem,g0,g1,g2,g3,g4,g5,g6,g7,g8,g9]) rfl ⟨⟨y2,false,rfl,fun _=>HOW.out,by rw [HNO.out];rfl⟩,HBE.out⟩
     have HT8:Hid (O=zX { y2.en with ka:=ka,kb:=kb } (zB (ws.drop (m2+1)))):=hid (by rw [HKT.out,hkr];rfl)
     have hks:ka.size≤32∧kb.size≤32:=nF (zFz hkr)
     have f1:=R8.out.open 2
     have f2:=R8.out.open 3
     have z1:W8.cell? ⟨w.heap.size+1,2,none⟩=some (.string y2.ka):=by rw [Lib.cell_of_heap R8.out.box];rfl
     have z2:W8.cell? ⟨w.heap.size+1,3,none⟩=some (.string y2.kb):=by rw [Lib.cell_of_heap R8.out.box];rfl
     obtain ⟨y3,hzz⟩:∃q:Ex,q={ y2 with ka:=ka,kb:=kb }:=⟨_,rfl⟩
     have hbr:sF y3 kn:=by rw [hzz];exact HB.out.keys ka kb (by unfold maxLen;omega) (by unfold maxLen;omega)
     obtain ⟨W5,hW5⟩:∃W',(W8.setCell ⟨w.heap.size+1,2,none⟩ (.string ka)).setCell ⟨w.heap.size+1,3,none⟩ (.string kb)=W':=⟨_,rfl⟩
     have R5:Hid (vJ w (w.heap.size+1) w.heap.size W5 y3):=hid (by
      rw [←hW5]
      have hb1:sF { y2 with ka:=ka } kn:=HB.out.keys ka y2.kb (by unfold maxLen;omega) HB.out.rng.kb
      have h1:=R8.out.turn (z:={ y2 with ka:=ka }) 2 (.string ka) (hb1.own _ _) rfl
      exact h1.turn (z:=y3) 3 (.string kb) (hbr.own _ _) (by rw [hzz];rfl))
     have HB5:=hid hbr
     have HT5:Hid (O=zX y3.en (zB (ws.drop (m2+1)))):=hid (by rw [HT8.out,hzz];rfl)
     clear hbr hzz hkr hks
     go_wp2_with fail
     try rw [hW8]
     try rw [hW5]
     go_meet
     case rel=>exact ⟨y3,R5,HB5,HT5⟩
   case rest =>
   obtain ⟨y3,R5,HB5,HT5⟩:=hcut
   clear c0 cx2 U3 HK3 HB R
   obtain ⟨W5,hwc⟩:∃W5,wc=W5:=⟨_,rfl⟩
   rw [hwc] at R5 ⊢
   clear hwc
   have c0:W5.cell? ⟨w.heap.size+1,0,none⟩=some (.int .i64 (kn:Int)):=by rw [R5.out.cells.1,HB5.out.kind]
   go_upto_block 2 with fail
   go_cut [7,10,11] from 14 (fun _ _ _ wx=>W5=wx∧kn≠7∧kn≠9∧kn≠10∧kn≠6∧kn≠11)
   case first =>
    clear c0
    by_cases h7:kn=7
    ·as_aux_lemma =>
     have b7:((kn:Int)==7)=true:=by rw [beq_iff_eq];omega
     have HTL:Hid (O=if (zB (ws.drop (m2+1))).length=1 then (xX (zB (ws.drop (m2+1)))[0]?).bind fun n=>some { y3.en with num:=(n:Int) } else none):=hid (by
      have hk:y3.en.kind=(kn:Int):=HB5.out.kind
      rw [HT5.out,zMI (by omega)])
     have HSM:Hid (Calls Tryz.prog 42 #[.slice (some ⟨b,off,none⟩) ws.length cap,.int .i64 ((m2:Int)+1)] W5 fun e w'=>e=.returned (zA6 (xX ((ws.map (·.data.toList))[m2+1]?)))∧w'=W5):=hid (dQ (some ⟨b,off,none⟩) cap ws (m2+1) W5 (HTV.out _ R5.out.bel) HS.out (by omega))
     obtain ⟨so,hso⟩:∃so,xX ((ws.map (·.data.toList))[m2+1]?)=so:=⟨_,rfl⟩
     have hsl:((so.getD 0:Nat):Int)≤999999999:=by
      cases so with
      | none=>show (0:Int)≤_;decide
      | some n=>have:=zC7 hso;show (n:Int)≤_;omega
     rw [cS,bZ,hso] at HTL
     rw [hso] at HSM
     unfold zA6 at HSM
     obtain ⟨sn,hsn⟩:∃sn:Nat,so.getD 0=sn:=⟨_,rfl⟩
     rw [hsn] at HSM hsl
     have HSN:=hid hsn
     clear hsn hso
     have f1:=R5.out.open 9
     have z1:W5.cell? ⟨w.heap.size+1,9,none⟩=some (.int .i64 y3.num):=by rw [Lib.cell_of_heap R5.out.box];rfl
     obtain ⟨y4,hzz⟩:∃q:Ex,q={ y3 with num:=(sn:Int) }:=⟨_,rfl⟩
     have hbr:sF y4 kn:=by rw [hzz];exact HB5.out.num _ (by omega) hsl
     obtain ⟨W6,hW6⟩:∃W',W5.setCell ⟨w.heap.size+1,9,none⟩ (.int .i64 (sn:Int))=W':=⟨_,rfl⟩
     have R6:Hid (vJ w (w.heap.size+1) w.heap.size W6 y4):=hid (by
      rw [←hW6]
      exact R5.out.turn 9 _ (hbr.own _ _) (by rw [hzz];rfl))
     have HB6:=hid hbr
     have HZZ:=hid hzz
     clear hbr hzz
     obtain ⟨ok,hok⟩:∃ok,(so.isSome&&decide (m2+1=ws.length-1))=ok:=⟨_,rfl⟩
     have HFI:Hid (O=if ok=true then some y4.en else none):=hid (by
      rw [HTL.out,HZZ.out,←hok]
      cases so with
      | none=>split<;>rfl
      | some n =>
       have hn:n=sn:=HSN.out
       by_cases hq:m2+1=ws.length-1
       ·rw [if_pos (by omega),hn,decide_eq_true hq];rfl
       ·rw [if_neg (by omega),decide_eq_false hq];rfl)
     have hqz:((m2:Int)+1==(ws.length:Int)-1)=decide (m2+1=ws.length-1):=by
      by_cases hq:m2+1=ws.length-1
      ·rw [decide_eq_true hq,beq_iff_eq];omega
      ·rw [decide_eq_false hq,beq_eq_false_iff_ne];omega
     have HOK:=hid hok
     clear hok
     go_wp2_with fail
     refine HSM.out.mono ?_
     rintro e w7 ⟨rfl,rfl⟩
     cases hso:so.isSome with
     | false =>
      have HO2:Hid (false=ok):=hid (by rw [←HOK.out,hso];rfl)
      clear hqz
      go_upto_region 29 with fail
      try rw [hW6]
      clear hW6 f1 z1
      have HRG:=hid R6.out.range
      have HTH:=hid R6.out.there
      obtain ⟨W4,hW4⟩:∃W4,W6.setCells w.heap.size 0 [.int .i64 y4.kind,.string y4.temp,.string y4.ka,.string y4.kb,.int .i64 y4.iff,.slice y4.vp y4.vo.length y4.vc,.slice y4.ep y4.eo.length y4.ec,.slice y4.pp y4.po.length y4.pc,.int .u64 y4.stamp,.int .i64 y4.num]=W4:=⟨_,rfl⟩
      obtain ⟨⟨g0,g1,g2,g3,g4,g5,g6,g7,g8,g9⟩,hown4,hbel4⟩:=R6.out.fin W4 hW4
      have HW4:Hid (W6.setCells w.heap.size 0 (#[.int .i64 y4.kind,.string y4.temp,.string y4.ka,.string y4.kb,.int .i64 y4.iff,.slice y4.vp y4.vo.length y4.vc,.slice y4.ep y4.eo.length y4.ec,.slice y4.pp y4.po.length y4.pc,.int .u64 y4.stamp,.int .i64 y4.num]:Array Value).toList=W4):=hid hW4
      have HOW:=hid hown4
      have HBE:=hid hbel4
      clear hown4 hbel4 hW4
      go_wp2_with (first|(refine yK rfl 42 _ rfl (w.heap.size+1) 0 rfl [.int .i64 y4.kind,.string y4.temp,.string y4.ka,.string y4.kb,.int .i64 y4.iff,.slice y4.vp y4.vo.length y4.vc,.slice y4.ep y4.eo.length y4.ec,.slice y4.pp y4.po.length y4.pc,.int .u64 y4.stamp,.int .i64 y4.num] _ HRG.out Tryz.underlying42 rfl Tryz.entSize (.agg #[.int .i64 y4.kind,.string y4.temp,.string y4.ka,.string y4.kb,.int .i64 y4.iff,.slice y4.vp y4.vo.length y4.vc,.slice y4.ep y4.eo.length y4.ec,.slice y4.pp y4.po.length y4.pc,.int .u64 y4.stamp,.int .i64 y4.num]) rfl ?_)|(refine yI rfl 42 _ _ rfl w.heap.size 0 #[.int .i64 y4.kind,.string y4.temp,.string y4.ka,.string y4.kb,.int .i64 y4.iff,.slice y4.vp y4.vo.length y4.vc,.slice y4.ep y4.eo.length y4.ec,.slice y4.pp y4.po.length y4.pc,.int .u64 y4.stamp,.int .i64 y4.num] rfl rfl HTH.out Tryz.entSize (tQ y4) W4 HW4.out ?_))
      exact bodyPost_ret (v:=.tuple #[.agg #[.int .i64 y4.kind,.string y4.temp,.string y4.ka,.string y4.kb,.int .i64 y4.iff,.slice y4.vp y4.vo.length y4.vc,.slice y4.ep y4.eo.length y4.ec,.slice y4.pp y4.po.length y4.pc,.int .u64 y4.stamp,.int .i64 y4.num],.bool false]) (by simp [results,Tryz.results19,go_sem,g0,g1,g2,g3,g4,g5,g6,g7,g8,g9]) rfl ⟨⟨y4,false,rfl,fun _=>HOW.out,by rw [HO2.out];exact HFI.out⟩,HBE.out⟩
     | true =>
      have HO2:Hid (decide (m2+1=ws.length-1)=ok):=hid (by rw [←HOK.out,hso];rfl)
      go_upto_region 29 with fail
      try rw [hW6]
      clear hW6 f1 z1
      have HRG:=hid R6.out.range
      have HTH:=hid R6.out.there
      obtain ⟨W4,hW4⟩:∃W4,W6.setCells w.heap.size 0 [.int .i64 y4.kind,.string y4.temp,.string y4.ka,.string y4.kb,.int .i64 y4.iff,.slice y4.vp y4.vo.length y4.vc,.slice y4.ep y4.eo.length y4.ec,.slice y4.pp y4.po.length y4.pc,.int .u64 y4.stamp,.int .i64 y4.num]=W4:=⟨_,rfl⟩
      obtain ⟨⟨g0,g1,g2,g3,g4,g5,g6,g7,g8,g9⟩,hown4,hbel4⟩:=R6.out.fin W4 hW4
      have HW4:Hid (W6.setCells w.heap.size 0 (#[.int .i64 y4.kind,.string y4.temp,.string y4.ka,.string y4.kb,.int .i64 y4.iff,.slice y4.vp y4.vo.length y4.vc,.slice y4.ep y4.eo.length y4.ec,.slice y4.pp y4.po.length y4.pc,.int .u64 y4.stamp,.int .i64 y4.num]:Array Value).toList=W4):=hid hW4
      have HOW:=hid hown4
      have HBE:=hid hbel4
      clear hown4 hbel4 hW4
      go_wp2_with (first|(refine yK rfl 42 _ rfl (w.heap.size+1) 0 rfl [.int .i64 y4.kind,.string y4.temp,.string y4.ka,.string y4.kb,.int .i64 y4.iff,.slice y4.vp y4.vo.length y4.vc,.slice y4.ep y4.eo.length y4.ec,.slice y4.pp y4.po.length y4.pc,.int .u64 y4.stamp,.int .i64 y4.num] _ HRG.out Tryz.underlying42 rfl Tryz.entSize (.agg #[.int .i64 y4.kind,.string y4.temp,.string y4.ka,.string y4.kb,.int .i64 y4.iff,.slice y4.vp y4.vo.length y4.vc,.slice y4.ep y4.eo.length y4.ec,.slice y4.pp y4.po.length y4.pc,.int .u64 y4.stamp,.int .i64 y4.num]) rfl ?_)|(refine yI rfl 42 _ _ rfl w.heap.size 0 #[.int .i64 y4.kind,.string y4.temp,.string y4.ka,.string y4.kb,.int .i64 y4.iff,.slice y4.vp y4.vo.length y4.vc,.slice y4.ep y4.eo.length y4.ec,.slice y4.pp y4.po.length y4.pc,.int .u64 y4.stamp,.int .i64 y4.num] rfl rfl HTH.out Tryz.entSize (tQ y4) W4 HW4.out ?_))
      exact bodyPost_ret (v:=.tuple #[.agg #[.int .i64 y4.kind,.string y4.temp,.string y4.ka,.string y4.kb,.int .i64 y4.iff,.slice y4.vp y4.vo.length y4.vc,.slice y4.ep y4.eo.length y4.ec,.slice y4.pp y4.po.length y4.pc,.int .u64 y4.stamp,.int .i64 y4.num],.bool (decide (m2+1=ws.length-1))]) (by simp [results,Tryz.results19,go_sem,g0,g1,g2,g3,g4,g5,g6,g7,g8,g9]) rfl ⟨⟨y4,(decide (m2+1=ws.length-1)),rfl,fun _=>HOW.out,by rw [HO2.out];exact HFI.out⟩,HBE.out⟩
    have b7:((kn:Int)==7)=false:=by rw [beq_eq_false_iff_ne];omega
    by_cases h9:kn=9∨kn=10
    ·as_aux_lemma =>
     go_upto_if 148 with fail
     go_cut [148] from 14 (fun v148 wx=>v148=.bool true∧W5=wx)
     case first =>
      rcases h9 with h|h
      ·have b9:((kn:Int)==9)=true:=by rw [beq_iff_eq];omega
       rw [b9]
       go_wp2_with fail
       go_meet
       case rel=>exact ⟨rfl,rfl⟩
      ·have b9:((kn:Int)==9)=false:=by rw [beq_eq_false_iff_ne];omega
       have b10:((kn:Int)==10)=true:=by rw [beq_iff_eq];omega
       rw [b9]
       go_wp2_with fail
       go_meet
       case rel=>exact ⟨by first|rfl|rw [b10],rfl⟩
     case rest =>
     obtain ⟨rfl,rfl⟩:=hcut
     have HTL:Hid (O=if (zB (ws.drop (m2+1))).length=1 then (xY (zB (ws.drop (m2+1)))[0]?).bind fun n=>some { y3.en with stamp:=(n:Int) } else none):=hid (by
      have hk:y3.en.kind=(kn:Int):=HB5.out.kind
      rw [HT5.out,zJy (by omega)])
     have HSM:Hid (Calls Tryz.prog 40 #[.slice (some ⟨b,off,none⟩) ws.length cap,.int .i64 ((m2:Int)+1)] W5 fun e w'=>e=.returned (zA6 (xY ((ws.map (·.data.toList))[m2+1]?)))∧w'=W5):=hid (cH (some ⟨b,off,none⟩) cap ws (m2+1) W5 (HTV.out _ R5.out.bel) HS.out (by omega))
     obtain ⟨so,hso⟩:∃so,xY ((ws.map (·.data.toList))[m2+1]?)=so:=⟨_,rfl⟩
     have hsl:((so.getD 0:Nat):Int)≤18446744073709551615:=by
      cases so with
      | none=>show (0:Int)≤_;decide
      | some n=>have:=zCq hso;show (n:Int)≤_;omega
     rw [cS,bZ,hso] at HTL
     rw [hso] at HSM
     unfold zA6 at HSM
     obtain ⟨sn,hsn⟩:∃sn:Nat,so.getD 0=sn:=⟨_,rfl⟩
     rw [hsn] at HSM hsl
     have HSN:=hid hsn
     clear hsn hso
     have f1:=R5.out.open 8
     have z1:W5.cell? ⟨w.heap.size+1,8,none⟩=some (.int .u64 y3.stamp):=by rw [Lib.cell_of_heap R5.out.box];rfl
     obtain ⟨y4,hzz⟩:∃q:Ex,q={ y3 with stamp:=(sn:Int) }:=⟨_,rfl⟩
     have hbr:sF y4 kn:=by rw [hzz];exact HB5.out.stamp _ (by omega) hsl
     obtain ⟨W6,hW6⟩:∃W',W5.setCell ⟨w.heap.size+1,8,none⟩ (.int .u64 (sn:Int))=W':=⟨_,rfl⟩
     have R6:Hid (vJ w (w.heap.size+1) w.heap.size W6 y4):=hid (by
      rw [←hW6]
      exact R5.out.turn 8 _ (hbr.own _ _) (by rw [hzz];rfl))
     have HB6:=hid hbr
     have HZZ:=hid hzz
     clear hbr hzz
     obtain ⟨ok,hok⟩:∃ok,(so.isSome&&decide (m2+1=ws.length-1))=ok:=⟨_,rfl⟩
     have HFI:Hid (O=if ok=true then some y4.en else none):=hid (by
      rw [HTL.out,HZZ.out,←hok]
      cases so with
      | none=>split<;>rfl
      | some n =>
       have hn:n=sn:=HSN.out
       by_cases hq:m2+1=ws.length-1
       ·rw [if_pos (by omega),hn,decide_eq_true hq];rfl
       ·rw [if_neg (by omega),decide_eq_false hq];rfl)
     have hqz:((m2:Int)+1==(ws.length:Int)-1)=decide (m2+1=ws.length-1):=by
      by_cases hq:m2+1=ws.length-1
      ·rw [decide_eq_true hq,beq_iff_eq];omega
      ·rw [decide_eq_false hq,beq_eq_false_iff_ne];omega
     have HOK:=hid hok
     clear hok
     go_wp2_with fail
     refine HSM.out.mono ?_
     rintro e w7 ⟨rfl,rfl⟩
     cases hso:so.isSome with
     | false =>
      have HO2:Hid (false=ok):=hid (by rw [←HOK.out,hso];rfl)
      clear hqz
      go_upto_region 33 with fail
      try rw [hW6]
      clear hW6 f1 z1
      have HRG:=hid R6.out.range
      have HTH:=hid R6.out.there
      obtain ⟨W4,hW4⟩:∃W4,W6.setCells w.heap.size 0 [.int .i64 y4.kind,.string y4.temp,.string y4.ka,.string y4.kb,.int .i64 y4.iff,.slice y4.vp y4.vo.length y4.vc,.slice y4.ep y4.eo.length y4.ec,.slice y4.pp y4.po.length y4.pc,.int .u64 y4.stamp,.int .i64 y4.num]=W4:=⟨_,rfl⟩
      obtain ⟨⟨g0,g1,g2,g3,g4,g5,g6,g7,g8,g9⟩,hown4,hbel4⟩:=R6.out.fin W4 hW4
      have HW4:Hid (W6.setCells w.heap.size 0 (#[.int .i64 y4.kind,.string y4.temp,.string y4.ka,.string y4.kb,.int .i64 y4.iff,.slice y4.vp y4.vo.length y4.vc,.slice y4.ep y4.eo.length y4.ec,.slice y4.pp y4.po.length y4.pc,.int .u64 y4.stamp,.int .i64 y4.num]:Array Value).toList=W4):=hid hW4
      have HOW:=hid hown4
      have HBE:=hid hbel4
      clear hown4 hbel4 hW4
      go_wp2_with (first|(refine yK rfl 42 _ rfl (w.heap.size+1) 0 rfl [.int .i64 y4.kind,.string y4.temp,.string y4.ka,.string y4.kb,.int .i64 y4.iff,.slice y4.vp y4.vo.length y4.vc,.slice y4.ep y4.eo.length y4.ec,.slice y4.pp y4.po.length y4.pc,.int .u64 y4.stamp,.int .i64 y4.num] _ HRG.out Tryz.underlying42 rfl Tryz.entSize (.agg #[.int .i64 y4.kind,.string y4.temp,.string y4.ka,.string y4.kb,.int .i64 y4.iff,.slice y4.vp y4.vo.length y4.vc,.slice y4.ep y4.eo.length y4.ec,.slice y4.pp y4.po.length y4.pc,.int .u64 y4.stamp,.int .i64 y4.num]) rfl ?_)|(refine yI rfl 42 _ _ rfl w.heap.size 0 #[.int .i64 y4.kind,.string y4.temp,.string y4.ka,.string y4.kb,.int .i64 y4.iff,.slice y4.vp y4.vo.length y4.vc,.slice y4.ep y4.eo.length y4.ec,.slice y4.pp y4.po.length y4.pc,.int .u64 y4.stamp,.int .i64 y4.num] rfl rfl HTH.out Tryz.entSize (tQ y4) W4 HW4.out ?_))
      exact bodyPost_ret (v:=.tuple #[.agg #[.int .i64 y4.kind,.string y4.temp,.string y4.ka,.string y4.kb,.int .i64 y4.iff,.slice y4.vp y4.vo.length y4.vc,.slice y4.ep y4.eo.length y4.ec,.slice y4.pp y4.po.length y4.pc,.int .u64 y4.stamp,.int .i64 y4.num],.bool false]) (by simp [results,Tryz.results19,go_sem,g0,g1,g2,g3,g4,g5,g6,g7,g8,g9]) rfl ⟨⟨y4,false,rfl,fun _=>HOW.out,by rw [HO2.out];exact HFI.out⟩,HBE.out⟩
     | true =>
      have HO2:Hid (decide (m2+1=ws.length-1)=ok):=hid (by rw [←HOK.out,hso];rfl)
      go_upto_region 33 with fail
      try rw [hW6]
      clear hW6 f1 z1
      have HRG:=hid R6.out.range
      have HTH:=hid R6.out.there
      obtain ⟨W4,hW4⟩:∃W4,W6.setCells w.heap.size 0 [.int .i64 y4.kind,.string y4.temp,.string y4.ka,.string y4.kb,.int .i64 y4.iff,.slice y4.vp y4.vo.length y4.vc,.slice y4.ep y4.eo.length y4.ec,.slice y4.pp y4.po.length y4.pc,.int .u64 y4.stamp,.int .i64 y4.num]=W4:=⟨_,rfl⟩
      obtain ⟨⟨g0,g1,g2,g3,g4,g5,g6,g7,g8,g9⟩,hown4,hbel4⟩:=R6.out.fin W4 hW4
      have HW4:Hid (W6.setCells w.heap.size 0 (#[.int .i64 y4.kind,.string y4.temp,.string y4.ka,.string y4.kb,.int .i64 y4.iff,.slice y4.vp y4.vo.length y4.vc,.slice y4.ep y4.eo.length y4.ec,.slice y4.pp y4.po.length y4.pc,.int .u64 y4.stamp,.int .i64 y4.num]:Array Value).toList=W4):=hid hW4
      have HOW:=hid hown4
      have HBE:=hid hbel4
      clear hown4 hbel4 hW4
      go_wp2_with (first|(refine yK rfl 42 _ rfl (w.heap.size+1) 0 rfl [.int .i64 y4.kind,.string y4.temp,.string y4.ka,.string y4.kb,.int .i64 y4.iff,.slice y4.vp y4.vo.length y4.vc,.slice y4.ep y4.eo.length y4.ec,.slice y4.pp y4.po.length y4.pc,.int .u64 y4.stamp,.int .i64 y4.num] _ HRG.out Tryz.underlying42 rfl Tryz.entSize (.agg #[.int .i64 y4.kind,.string y4.temp,.string y4.ka,.string y4.kb,.int .i64 y4.iff,.slice y4.vp y4.vo.length y4.vc,.slice y4.ep y4.eo.length y4.ec,.slice y4.pp y4.po.length y4.pc,.int .u64 y4.stamp,.int .i64 y4.num]) rfl ?_)|(refine yI rfl 42 _ _ rfl w.heap.size 0 #[.int .i64 y4.kind,.string y4.temp,.string y4.ka,.string y4.kb,.int .i64 y4.iff,.slice y4.vp y4.vo.length y4.vc,.slice y4.ep y4.eo.length y4.ec,.slice y4.pp y4.po.length y4.pc,.int .u64 y4.stamp,.int .i64 y4.num] rfl rfl HTH.out Tryz.entSize (tQ y4) W4 HW4.out ?_))
      exact bodyPost_ret (v:=.tuple #[.agg #[.int .i64 y4.kind,.string y4.temp,.string y4.ka,.string y4.kb,.int .i64 y4.iff,.slice y4.vp y4.vo.length y4.vc,.slice y4.ep y4.eo.length y4.ec,.slice y4.pp y4.po.length y4.pc,.int .u64 y4.stamp,.int .i64 y4.num],.bool (decide (m2+1=ws.length-1))]) (by simp [results,Tryz.results19,go_sem,g0,g1,g2,g3,g4,g5,g6,g7,g8,g9]) rfl ⟨⟨y4,(decide (m2+1=ws.length-1)),rfl,fun _=>HOW.out,by rw [HO2.out];exact HFI.out⟩,HBE.out⟩
    have b9:((kn:Int)==9)=false:=by rw [beq_eq_false_iff_ne];omega
    have b10:((kn:Int)==10)=false:=by rw [beq_eq_false_iff_ne];omega
    by_cases h6:kn=6∨kn=11
    ·as_aux_lemma =>
     go_upto_if 167 with fail
     go_cut [167] from 14 (fun v167 wx=>v167=.bool true∧W5=wx)
     case first =>
      rcases h6 with h|h
      ·have b6:((kn:Int)==6)=true:=by rw [beq_iff_eq];omega
       rw [b6]
       go_wp2_with fail
       go_meet
       case rel=>exact ⟨rfl,rfl⟩
      ·have b6:((kn:Int)==6)=false:=by rw [beq_eq_false_iff_ne];omega
       have b11:((kn:Int)==11)=true:=by rw [beq_iff_eq];omega
       rw [b6]
       go_wp2_with fail
       go_meet
       case rel=>exact ⟨by first|rfl|rw [b11],rfl⟩
     case rest =>
     obtain ⟨rfl,rfl⟩:=hcut
     have HTL:Hid (O=if zB (ws.drop (m2+1))=[] then some y3.en else none):=hid (by
      have hk:y3.en.kind=(kn:Int):=HB5.out.kind
      rw [HT5.out,zI6 (by omega)])
     have HFI:Hid (O=if decide (m2+1=ws.length)=true then some y3.en else none):=hid (by
      rw [HTL.out]
      by_cases hq:m2+1=ws.length
      ·rw [if_pos (dC (by omega)),if_pos (decide_eq_true hq)]
      ·rw [if_neg,if_neg (by rw [decide_eq_false hq];decide)]
       intro q
       have:=congrArg List.length q
       rw [bZ] at this
       simp at this
       omega)
     have hqz:((m2:Int)+1==(ws.length:Int))=decide (m2+1=ws.length):=by
      by_cases hq:m2+1=ws.length
      ·rw [decide_eq_true hq,beq_iff_eq];omega
      ·rw [decide_eq_false hq,beq_eq_false_iff_ne];omega
     go_upto_region 36 with fail
     have HRG:=hid R5.out.range
     have HTH:=hid R5.out.there
     obtain ⟨W4,hW4⟩:∃W4,W5.setCells w.heap.size 0 [.int .i64 y3.kind,.string y3.temp,.string y3.ka,.string y3.kb,.int .i64 y3.iff,.slice y3.vp y3.vo.length y3.vc,.slice y3.ep y3.eo.length y3.ec,.slice y3.pp y3.po.length y3.pc,.int .u64 y3.stamp,.int .i64 y3.num]=W4:=⟨_,rfl⟩
     obtain ⟨⟨g0,g1,g2,g3,g4,g5,g6,g7,g8,g9⟩,hown4,hbel4⟩:=R5.out.fin W4 hW4
     have HW4:Hid (W5.setCells w.heap.size 0 (#[.int .i64 y3.kind,.string y3.temp,.string y3.ka,.string y3.kb,.int .i64 y3.iff,.slice y3.vp y3.vo.length y3.vc,.slice y3.ep y3.eo.length y3.ec,.slice y3.pp y3.po.length y3.pc,.int .u64 y3.stamp,.int .i64 y3.num]:Array Value).toList=W4):=hid hW4
     have HOW:=hid hown4
     have HBE:=hid hbel4
     clear hown4 hbel4 hW4
     go_wp2_with (first|(refine yK rfl 42 _ rfl (w.heap.size+1) 0 rfl [.int .i64 y3.kind,.string y3.temp,.string y3.ka,.string y3.kb,.int .i64 y3.iff,.slice y3.vp y3.vo.length y3.vc,.slice y3.ep y3.eo.length y3.ec,.slice y3.pp y3.po.length y3.pc,.int .u64 y3.stamp,.int .i64 y3.num] _ HRG.out Tryz.underlying42 rfl Tryz.entSize (.agg #[.int .i64 y3.kind,.string y3.temp,.string y3.ka,.string y3.kb,.int .i64 y3.iff,.slice y3.vp y3.vo.length y3.vc,.slice y3.ep y3.eo.length y3.ec,.slice y3.pp y3.po.length y3.pc,.int .u64 y3.stamp,.int .i64 y3.num]) rfl ?_)|(refine yI rfl 42 _ _ rfl w.heap.size 0 #[.int .i64 y3.kind,.string y3.temp,.string y3.ka,.string y3.kb,.int .i64 y3.iff,.slice y3.vp y3.vo.length y3.vc,.slice y3.ep y3.eo.length y3.ec,.slice y3.pp y3.po.length y3.pc,.int .u64 y3.stamp,.int .i64 y3.num] rfl rfl HTH.out Tryz.entSize (tQ y3) W4 HW4.out ?_))
     exact bodyPost_ret (v:=.tuple #[.agg #[.int .i64 y3.kind,.string y3.temp,.string y3.ka,.string y3.kb,.int .i64 y3.iff,.slice y3.vp y3.vo.length y3.vc,.slice y3.ep y3.eo.length y3.ec,.slice y3.pp y3.po.length y3.pc,.int .u64 y3.stamp,.int .i64 y3.num],.bool (decide (m2+1=ws.length))]) (by simp [results,Tryz.results19,go_sem,g0,g1,g2,g3,g4,g5,g6,g7,g8,g9]) rfl ⟨⟨y3,(decide (m2+1=ws.length)),rfl,fun _=>HOW.out,HFI.out⟩,HBE.out⟩
    as_aux_lemma =>
    have b6:((kn:Int)==6)=false:=by rw [beq_eq_false_iff_ne];omega
    have b11:((kn:Int)==11)=false:=by rw [beq_eq_false_iff_ne];omega
    have HNE:Hid (kn≠7∧kn≠9∧kn≠10∧kn≠6∧kn≠11):=hid ⟨h7,fun q=>h9 (Or.inl q),fun q=>h9 (Or.inr q),fun q=>h6 (Or.inl q),fun q=>h6 (Or.inr q)⟩
    clear h7 h9 h6
    go_wp2_with fail
    go_meet
    case rel=>exact ⟨rfl,HNE.out⟩
   case rest =>
   obtain ⟨rfl,h7,h9,h10,h6,h11⟩:=hcut
   have HNE:Hid (kn≠7∧kn≠9∧kn≠10∧kn≠6∧kn≠11):=hid ⟨h7,h9,h10,h6,h11⟩
   clear h7 h9 h10 h6 h11
   have hcz2:(ws.length:Int)≤(cap:Int):=by omega
   obtain ⟨B,hB⟩:∃B:Bool,(decide (3≤kn∧kn≤5)&&(match ws[m2+1]? with|some x=>decide (x.data.toList=[105,102])|none=>false))=B:=⟨_,rfl⟩
   have HBB:=hid hB
   clear hB
   go_upto_region 37 with fail
   go_cut [195] from 14 (fun v195 wx=>v195=.bool B∧W5=wx)
   case first =>
    as_aux_lemma =>
    by_cases h3:3≤kn
    case neg =>
     have h3z:¬ (3:Int)≤(kn:Int):=by omega
     have E:Hid (B=false):=hid (by rw [←HBB.out,decide_eq_false (by omega)];rfl)
     go_wp2_with fail
     go_meet
     case rel=>exact ⟨by rw [E.out],rfl⟩
    have h3z:(3:Int)≤(kn:Int):=by omega
    by_cases h5:kn≤5
    case neg =>
     have h5z:¬ (kn:Int)≤5:=by omega
     have E:Hid (B=false):=hid (by rw [←HBB.out,decide_eq_false (by omega)];rfl)
     go_wp2_with fail
     go_meet
     case rel=>exact ⟨by rw [E.out],rfl⟩
    have h5z:(kn:Int)≤5:=by omega
    by_cases hn:m2+1<ws.length
    case neg =>
     have hnz:¬ (m2:Int)+1<(ws.length:Int):=by omega
     have E:Hid (B=false):=hid (by rw [←HBB.out,List.getElem?_eq_none (by omega),Bool.and_false])
     go_wp2_with fail
     go_meet
     case rel=>exact ⟨by rw [E.out],rfl⟩
    have hnz:(m2:Int)+1<(ws.length:Int):=by omega
    have hmz1:(0:Int)≤(m2:Int)+1:=by omega
    obtain ⟨x3,hx3⟩:∃x3,ws[m2+1]? = some x3:=⟨_,List.getElem?_eq_getElem hn⟩
    have cx3:W5.cell? ⟨b,off+(m2+1),none⟩=some (.string x3):=HTX.out W5 (m2+1) x3 hx3 R5.out.bel
    have EB:Hid (B=decide (x3.data.toList=[105,102])):=hid (by rw [←HBB.out,hx3,decide_eq_true ⟨h3,h5⟩,Bool.true_and])
    clear hx3
    by_cases hif:x3.data.toList=[105,102]
    ·have hif2:(x3.toList==[105,102])=true:=by rw [toList_data,hif];rfl
     have E:Hid (B=true):=hid (by rw [EB.out,decide_eq_true hif])
     clear hif
     go_wp2_with fail
     go_meet
     case rel=>exact ⟨by rw [E.out],rfl⟩
    ·have hif2:(x3.toList==[105,102])=false:=by rw [toList_data];exact beq_eq_false_iff_ne.2 hif
     have E:Hid (B=false):=hid (by rw [EB.out,decide_eq_false hif])
     clear hif
     go_wp2_with fail
     go_meet
     case rel=>exact ⟨by rw [E.out],rfl⟩
   case rest =>
   obtain ⟨rfl,rfl⟩:=hcut
   go_upto_if 195 with fail
   go_cut [6,12,13] from 14 (fun v6 _ _ wx=>∃(n:Nat) (y4:Ex),v6=.int .i64 n∧n≤ws.length∧Hid (vJ w (w.heap.size+1) w.heap.size wx y4)∧Hid (sF y4 kn)∧Hid (O=yO y4.en (zB (ws.drop n))))
   case first =>
    as_aux_lemma =>
    have HW0:Hid ((zB (ws.drop (m2+1)))[0]? = ws[m2+1]?.map (·.data.toList)):=hid (by rw [cS,List.getElem?_map])
    have hk:y3.en.kind=(kn:Int):=HB5.out.kind
    cases B with
    | false =>
     have HRS:Hid (O=yO y3.en (zB (ws.drop (m2+1)))):=hid (by
      obtain ⟨h7,h9,h10,h6,h11⟩:=HNE.out
      rw [HT5.out,zKS (by omega) (by omega) (by omega) (by omega) (by omega) (fun q=>by
       have hb:=HBB.out
       rw [decide_eq_true (by omega:3≤kn∧kn≤5),Bool.true_and] at hb
       have h2:=q.2.2
       rw [HW0.out] at h2
       cases hx:ws[m2+1]? with
       | none=>rw [hx] at h2;cases h2
       | some x =>
        rw [hx] at h2 hb
        have h4:x.data.toList=[105,102]:=Option.some.inj h2
        have hb4:decide (x.data.toList=[105,102])=false:=hb
        rw [decide_eq_true h4] at hb4
        cases hb4)])
     clear hk
     go_wp2_with fail
     go_meet
     case rel=>exact ⟨m2+1,y3,by go_num,by omega,R5,HB5,HRS⟩
    | true =>
     obtain ⟨h3,h5,x3,hx3,hif⟩:3≤kn∧kn≤5∧∃x,ws[m2+1]? = some x∧x.data.toList=[105,102]:=by
      have hb:=HBB.out
      rw [Bool.and_eq_true,decide_eq_true_eq] at hb
      cases hx:ws[m2+1]? with
      | none=>rw [hx] at hb;cases hb.2
      | some x=>rw [hx] at hb;exact ⟨hb.1.1,hb.1.2,x,rfl,of_decide_eq_true hb.2⟩
     have HTL:Hid (O=(xX (zB (ws.drop (m2+1)))[1]?).bind fun n=>if n=0 then none else yO { y3.en with iff:=(n:Int) } ((zB (ws.drop (m2+1))).drop 2)):=hid (by
      rw [HT5.out,zN3 (by omega) (by omega) (by rw [HW0.out,hx3,←hif];rfl)])
     have HSM:Hid (Calls Tryz.prog 42 #[.slice (some ⟨b,off,none⟩) ws.length cap,.int .i64 ((m2:Int)+1+1)] W5 fun e w'=>e=.returned (zA6 (xX ((ws.map (·.data.toList))[m2+1+1]?)))∧w'=W5):=hid (dQ (some ⟨b,off,none⟩) cap ws (m2+1+1) W5 (HTV.out _ R5.out.bel) HS.out (by omega))
     obtain ⟨so,hso⟩:∃so,xX ((ws.map (·.data.toList))[m2+1+1]?)=so:=⟨_,rfl⟩
     have hsl:((so.getD 0:Nat):Int)≤999999999:=by
      cases so with
      | none=>show (0:Int)≤_;decide
      | some n=>have:=zC7 hso;show (n:Int)≤_;omega
     have HLEN:Hid (∀n,so=some n→m2+1+1<ws.length):=hid fun n hn=>by
      rw [hn] at hso
      rcases Nat.lt_or_ge (m2+1+1) ws.length with h|h
      ·exact h
      ·rw [List.getElem?_eq_none (by rw [List.length_map];exact h)] at hso
       cases hso
     rw [zJ6,hso] at HTL
     rw [hso] at HSM
     unfold zA6 at HSM
     obtain ⟨sn,hsn⟩:∃sn:Nat,so.getD 0=sn:=⟨_,rfl⟩
     rw [hsn] at HSM hsl
     have HSN:=hid hsn
     clear hsn hso hif hk hx3 h3 h5
     have HRG:=hid R5.out.range
     have HTH:=hid R5.out.there
     obtain ⟨W4,hW4⟩:∃W4,W5.setCells w.heap.size 0 [.int .i64 y3.kind,.string y3.temp,.string y3.ka,.string y3.kb,.int .i64 y3.iff,.slice y3.vp y3.vo.length y3.vc,.slice y3.ep y3.eo.length y3.ec,.slice y3.pp y3.po.length y3.pc,.int .u64 y3.stamp,.int .i64 y3.num]=W4:=⟨_,rfl⟩
     obtain ⟨⟨g0,g1,g2,g3,g4,g5,g6,g7,g8,g9⟩,hown4,hbel4⟩:=R5.out.fin W4 hW4
     have HW4:Hid (W5.setCells w.heap.size 0 (#[.int .i64 y3.kind,.string y3.temp,.string y3.ka,.string y3.kb,.int .i64 y3.iff,.slice y3.vp y3.vo.length y3.vc,.slice y3.ep y3.eo.length y3.ec,.slice y3.pp y3.po.length y3.pc,.int .u64 y3.stamp,.int .i64 y3.num]:Array Value).toList=W4):=hid hW4
     have HOW:=hid hown4
     have HBE:=hid hbel4
     clear hown4 hbel4 hW4
     have f1:=R5.out.open 4
     have z1:W5.cell? ⟨w.heap.size+1,4,none⟩=some (.int .i64 y3.iff):=by rw [Lib.cell_of_heap R5.out.box];rfl
     obtain ⟨y4,hzz⟩:∃q:Ex,q={ y3 with iff:=(sn:Int) }:=⟨_,rfl⟩
     have hbr:sF y4 kn:=by rw [hzz];exact HB5.out.iff _ (by omega) hsl
     obtain ⟨W6,hW6⟩:∃W',W5.setCell ⟨w.heap.size+1,4,none⟩ (.int .i64 (sn:Int))=W':=⟨_,rfl⟩
     have R6:Hid (vJ w (w.heap.size+1) w.heap.size W6 y4):=hid (by
      rw [←hW6]
      exact R5.out.turn 4 _ (hbr.own _ _) (by rw [hzz];rfl))
     have HB6:=hid hbr
     have HZZ:=hid hzz
     clear hbr hzz
     go_wp2_with fail
     refine HSM.out.mono ?_
     rintro e w7 ⟨rfl,rfl⟩
     obtain ⟨B2,hB2⟩:∃B2:Bool,(so.isNone||decide (sn=0))=B2:=⟨_,rfl⟩
     have HB2:=hid hB2
     clear hB2
     go_upto_region 39 with fail
     go_cut [208] from 14 (fun v208 wx=>v208=.bool B2∧w7=wx)
     case first =>
      cases so with
      | none =>
       have E:Hid (B2=true):=hid (by rw [←HB2.out];rfl)
       go_wp2_with fail
       go_meet
       case rel=>exact ⟨by rw [E.out],rfl⟩
      | some n =>
       by_cases hq:sn=0
       ·have E:Hid (B2=true):=hid (by rw [←HB2.out,decide_eq_true hq];rfl)
        have hqz:((sn:Int)==0)=true:=by rw [beq_iff_eq];omega
        clear hq
        go_wp2_with fail
        go_meet
        case rel=>exact ⟨by rw [E.out],rfl⟩
       ·have E:Hid (B2=false):=hid (by rw [←HB2.out,decide_eq_false hq];rfl)
        have hqz:((sn:Int)==0)=false:=by rw [beq_eq_false_iff_ne];omega
        clear hq
        go_wp2_with fail
        go_meet
        case rel=>exact ⟨by rw [E.out],rfl⟩
     case rest =>
     obtain ⟨rfl,rfl⟩:=hcut
     cases B2 with
     | true =>
      have HNO:Hid (O=none):=hid (by
       rw [HTL.out]
       cases so with
       | none=>rfl
       | some n =>
        have h1:=HB2.out
        have h2:n=sn:=HSN.out
        have h3:n=0:=by rw [h2];simpa using h1
        rw [Option.bind_some,if_pos h3])
      go_upto_region 40 with fail
      clear hW6 f1 z1
      go_wp2_with (first|(refine yK rfl 42 _ rfl (w.heap.size+1) 0 rfl [.int .i64 y3.kind,.string y3.temp,.string y3.ka,.string y3.kb,.int .i64 y3.iff,.slice y3.vp y3.vo.length y3.vc,.slice y3.ep y3.eo.length y3.ec,.slice y3.pp y3.po.length y3.pc,.int .u64 y3.stamp,.int .i64 y3.num] _ HRG.out Tryz.underlying42 rfl Tryz.entSize (.agg #[.int .i64 y3.kind,.string y3.temp,.string y3.ka,.string y3.kb,.int .i64 y3.iff,.slice y3.vp y3.vo.length y3.vc,.slice y3.ep y3.eo.length y3.ec,.slice y3.pp y3.po.length y3.pc,.int .u64 y3.stamp,.int .i64 y3.num]) rfl ?_)|(refine yI rfl 42 _ _ rfl w.heap.size 0 #[.int .i64 y3.kind,.string y3.temp,.string y3.ka,.string y3.kb,.int .i64 y3.iff,.slice y3.vp y3.vo.length y3.vc,.slice y3.ep y3.eo.length y3.ec,.slice y3.pp y3.po.length y3.pc,.int .u64 y3.stamp,.int .i64 y3.num] rfl rfl HTH.out Tryz.entSize (tQ y3) W4 HW4.out ?_))
      exact bodyPost_ret (v:=.tuple #[.agg #[.int .i64 y3.kind,.string y3.temp,.string y3.ka,.string y3.kb,.int .i64 y3.iff,.slice y3.vp y3.vo.length y3.vc,.slice y3.ep y3.eo.length y3.ec,.slice y3.pp y3.po.length y3.pc,.int .u64 y3.stamp,.int .i64 y3.num],.bool false]) (by simp [results,Tryz.results19,go_sem,g0,g1,g2,g3,g4,g5,g6,g7,g8,g9]) rfl ⟨⟨y3,false,rfl,fun _=>HOW.out,by rw [HNO.out];rfl⟩,HBE.out⟩
     | false =>
      obtain ⟨n,rfl,hn0⟩:∃n,so=some n∧n≠0:=by
       have h1:=HB2.out
       cases so with
       | none=>cases h1
       | some n=>have h2:n=sn:=HSN.out;exact ⟨n,rfl,by rw [h2];simpa using h1⟩
      have hm3:=HLEN.out n rfl
      have HRS:Hid (O=yO y4.en (zB (ws.drop (m2+1+2)))):=hid (by
       rw [HTL.out,Option.bind_some,if_neg hn0,HZZ.out]
       have h2:n=sn:=HSN.out
       have:(zB (ws.drop (m2+1))).drop 2=zB (ws.drop (m2+1+2)):=by unfold zB;rw [←List.map_drop,List.drop_drop]
       rw [this,h2];rfl)
      clear hn0
      go_wp2_with fail
      try rw [hW6]
      go_meet
      case rel=>exact ⟨m2+1+2,y4,by go_num,by omega,R6,HB6,HRS⟩
   case rest =>
   obtain ⟨n,y4,rfl,hn,R6,HB6,HRS⟩:=hcut
   clear R5 HB5 HT5 HBB
   obtain ⟨W6,hwc⟩:∃W6,wc=W6:=⟨_,rfl⟩
   rw [hwc] at R6 ⊢
   clear hwc
   have hcz:(n:Int)≤(ws.length:Int):=by omega
   have hcz3:(0:Int)≤(n:Int):=by omega
   have htn:((n:Int)).toNat=n:=by omega
   obtain ⟨q,hq⟩:∃q:Option Addr,(if cap=n then some ⟨b,off,none⟩ else some ⟨b,off+(n),none⟩)=q:=⟨_,rfl⟩
   have HQ:=hid hq
   have HRT:Hid (∀V,Below W6.heap.size W6 V→Calls Tryz.prog 43 #[.agg #[.int .i64 y4.kind,.string y4.temp,.string y4.ka,.string y4.kb,.int .i64 y4.iff,.slice y4.vp y4.vo.length y4.vc,.slice y4.ep y4.eo.length y4.ec,.slice y4.pp y4.po.length y4.pc,.int .u64 y4.stamp,.int .i64 y4.num],.slice q (ws.length-(n):Nat) (cap-(n))] V fun e w'=>∃(z:Ex) (ok:Bool),e=.returned (.tuple #[.agg #[.int .i64 z.kind,.string z.temp,.string z.ka,.string z.kb,.int .i64 z.iff,.slice z.vp z.vo.length z.vc,.slice z.ep z.eo.length z.ec,.slice z.pp z.po.length z.pc,.int .u64 z.stamp,.int .i64 z.num],.bool ok])∧(ok=true→xI w.heap.size z w')∧O=(if ok=true then some z.en else none)∧Below V.heap.size V w'):=hid fun V hV=>by
    have htx:wJ V q (ws.drop (n)):=by
     rw [←HQ.out]
     split
     ·exact Or.inl (List.drop_eq_nil_of_le (by omega))
     ·exact dS (HTV.out V (R6.out.bel.trans (hV.mono R6.out.bel.size))) rfl _
    have h:=zF5 y4 HB6.out.bare q (cap-(n)) (ws.drop (n)) V HB6.out.rng htx (by rw [List.length_drop];omega) (by rw [List.length_drop];omega) fun x hx=>HS.out x (List.mem_of_mem_drop hx)
    rw [List.length_drop] at h
    refine h.mono ?_
    rintro e w' ⟨⟨z,ok,rfl,ho,hz⟩,hb⟩
    have hsz:=hV.size
    have hbs:=R6.out.bel.size
    exact ⟨z,ok,rfl,fun h=>(ho h).weak (by omega),by rw [HRS.out];exact hz,hb⟩
   have HSC:Hid (∀w',Below W6.heap.size W6 w'→w'.cell? ⟨w.heap.size+1,0,none⟩=some (.int .i64 y4.kind)∧w'.cell? ⟨w.heap.size+1,1,none⟩=some (.string y4.temp)∧w'.cell? ⟨w.heap.size+1,2,none⟩=some (.string y4.ka)∧w'.cell? ⟨w.heap.size+1,3,none⟩=some (.string y4.kb)∧w'.cell? ⟨w.heap.size+1,4,none⟩=some (.int .i64 y4.iff)∧w'.cell? ⟨w.heap.size+1,5,none⟩=some (.slice y4.vp y4.vo.length y4.vc)∧w'.cell? ⟨w.heap.size+1,6,none⟩=some (.slice y4.ep y4.eo.length y4.ec)∧w'.cell? ⟨w.heap.size+1,7,none⟩=some (.slice y4.pp y4.po.length y4.pc)∧w'.cell? ⟨w.heap.size+1,8,none⟩=some (.int .u64 y4.stamp)∧w'.cell? ⟨w.heap.size+1,9,none⟩=some (.int .i64 y4.num)):=hid fun w' h=>(R6.out.on h).cells
   have hsc:=HSC.out W6.drew (zP (Below.refl _ _) 1)
   clear hq
   go_upto_region 43 with fail
   refine wp_region_held_drew (S:=fun w'=>w'.cell? ⟨w.heap.size+1,0,none⟩=some (.int .i64 y4.kind)∧w'.cell? ⟨w.heap.size+1,1,none⟩=some (.string y4.temp)∧w'.cell? ⟨w.heap.size+1,2,none⟩=some (.string y4.ka)∧w'.cell? ⟨w.heap.size+1,3,none⟩=some (.string y4.kb)∧w'.cell? ⟨w.heap.size+1,4,none⟩=some (.int .i64 y4.iff)∧w'.cell? ⟨w.heap.size+1,5,none⟩=some (.slice y4.vp y4.vo.length y4.vc)∧w'.cell? ⟨w.heap.size+1,6,none⟩=some (.slice y4.ep y4.eo.length y4.ec)∧w'.cell? ⟨w.heap.size+1,7,none⟩=some (.slice y4.pp y4.po.length y4.pc)∧w'.cell? ⟨w.heap.size+1,8,none⟩=some (.int .u64 y4.stamp)∧w'.cell? ⟨w.heap.size+1,9,none⟩=some (.int .i64 y4.num)) (by kernel_rfl) hsc (fun hHeld=>?_)
   refine tkv 0 (.agg #[.int .i64 y4.kind,.string y4.temp,.string y4.ka,.string y4.kb,.int .i64 y4.iff,.slice y4.vp y4.vo.length y4.vc,.slice y4.ep y4.eo.length y4.ec,.slice y4.pp y4.po.length y4.pc,.int .u64 y4.stamp,.int .i64 y4.num]) hHeld ?_
   simp only [Act.put,sz]
   refine tkv 1 (.slice (some ⟨b,off,none⟩) ws.length cap) hHeld ?_
   simp only [Act.put,sz]
   refine tkv 2 (.int .i64 ((n:Int))) hHeld ?_
   simp only [Act.put,sz]
   refine zLe (i:=3) (.slice q (ws.length-(n):Nat) (cap-(n))) rfl (by kernel_rfl) (by kernel_rfl) (by kernel_rfl) (fun _ _ _ h=>h) (by rfl) (fun w hSw=>by
    rw [←HQ.out]
    by_cases hcp:cap=n
    ·rw [if_pos hcp]
     go_simp
     all_goals simp [htn]
    ·rw [if_neg hcp]
     go_simp
     all_goals simp [htn,hcp]) hHeld ?_
   simp only [Act.put,sz]
   refine wpAnyH_ready (rs:=[4]) (by kernel_rfl) (by simp) ?_
   refine AllReadyH.cons (yT rfl) (fun K hK=>?_) AllReadyH.nil
   rw [if_pos (by rfl)]
   go_simp
   refine (HRT.out _ (zP (Below.refl _ _) 1)).mono ?_
   rintro e w7 ⟨z,ok,rfl,hoz,hzO,hb7⟩
   have hb7':Below W6.heap.size W6 w7:=(zP (Below.refl W6.heap.size W6) 1).trans hb7
   have R7:=hid (R6.out.on hb7')
   have q7:=HSC.out w7 hb7'
   have HOZ:=hid hoz
   have HZO:=hid hzO
   obtain ⟨W4,hW4⟩:∃W4,w7.setCells w.heap.size 0 [.int .i64 z.kind,.string z.temp,.string z.ka,.string z.kb,.int .i64 z.iff,.slice z.vp z.vo.length z.vc,.slice z.ep z.eo.length z.ec,.slice z.pp z.po.length z.pc,.int .u64 z.stamp,.int .i64 z.num]=W4:=⟨_,rfl⟩
   obtain ⟨⟨g0,g1,g2,g3,g4,g5,g6,g7,g8,g9⟩,hown4,hbel4,q8⟩:=R7.out.leave W4 hW4
   have HW4:Hid (w7.setCells w.heap.size 0 (#[.int .i64 z.kind,.string z.temp,.string z.ka,.string z.kb,.int .i64 z.iff,.slice z.vp z.vo.length z.vc,.slice z.ep z.eo.length z.ec,.slice z.pp z.po.length z.pc,.int .u64 z.stamp,.int .i64 z.num]:Array Value).toList=W4):=hid hW4
   have HOW:=hid hown4
   have HBE:=hid hbel4
   have HTH:=hid R7.out.there
   clear hoz hzO hb7 hb7' hown4 hbel4 hW4
   go_wp2_with fail
   refine hK.out _ _ q7 (fun hHeld=>?_)
   clear hK K
   try simp only [Act.put,sz]
   refine tkv 5 (.agg #[.int .i64 z.kind,.string z.temp,.string z.ka,.string z.kb,.int .i64 z.iff,.slice z.vp z.vo.length z.vc,.slice z.ep z.eo.length z.ec,.slice z.pp z.po.length z.pc,.int .u64 z.stamp,.int .i64 z.num]) hHeld ?_
   simp only [Act.put,sz]
   refine tkv 6 (.bool ok) hHeld ?_
   simp only [Act.put,sz]
   refine wpAnyH_ready (rs:=[7]) (by kernel_rfl) (by simp) ?_
   refine AllReadyH.cons (yT rfl) (fun K hK=>?_) AllReadyH.nil
   rw [if_pos (by rfl)]
   refine wp_store_mid 42 _ _ rfl w.heap.size 0 #[.int .i64 z.kind,.string z.temp,.string z.ka,.string z.kb,.int .i64 z.iff,.slice z.vp z.vo.length z.vc,.slice z.ep z.eo.length z.ec,.slice z.pp z.po.length z.pc,.int .u64 z.stamp,.int .i64 z.num] rfl rfl HTH.out Tryz.entSize (tQ z) ?_
   rw [HW4.out]
   refine hK.out _ _ q8 (fun hHeld=>?_)
   clear hK K
   try simp only [Act.put]
   refine tkv 8 (.bool ok) hHeld ?_
   simp only [Act.put,sz]
   refine wpAnyH_done (by kernel_rfl) ?_ _
   clear hHeld
   go_wp2_with fail
   exact bodyPost_ret (v:=.tuple #[.agg #[.int .i64 z.kind,.string z.temp,.string z.ka,.string z.kb,.int .i64 z.iff,.slice z.vp z.vo.length z.vc,.slice z.ep z.eo.length z.ec,.slice z.pp z.po.length z.pc,.int .u64 z.stamp,.int .i64 z.num],.bool ok]) (by simp [results,Tryz.results19,go_sem,g0,g1,g2,g3,g4,g5,g6,g7,g8,g9]) rfl ⟨⟨z,ok,rfl,fun h=>HOW.out (HOZ.out h),HZO.out⟩,HBE.out⟩
end
section
open Go.RowKit
theorem zHE (p:List Tm):(wB p).length<=8:=by
 unfold wB
 by_cases hm:wA p=0
 ·rw [if_pos hm];have:=jA p;have:=(tE hm).1;omega
 ·rw [if_neg hm];simp
theorem zIr (x:Ex) (w:World) (h:uJ w x) (h1:1<=x.kind) (h2:x.kind<=12) :
  Calls Tryz.prog 44 #[wR x] w fun e w'=>e=.returned (.bool (vB x.en))/\Below w.heap.size w w':=by
 obtain ⟨N,hN⟩:∃N,w.heap.size=N:=⟨_,rfl⟩
 have HK:Hid (pN w N x (w.alloc (.cells (yZ x).toArray 42))):=by rw [<-hN];exact kK h
 have HN:=hid fun W=>gL x.kind W h1 h2
 have hne:=zMg x.kind h1 h2
 have HNO:Hid (∀P:Prop,¬ P->(vB x.en=true->P)->vB x.en=false):=fun P hp hq=>by
  cases hm:vB x.en with
  | false=>rfl
  | true=>exact absurd (hq hm) hp
 obtain ⟨n,hn⟩:∃n,zCB x.kind=n:=⟨_,rfl⟩
 rw [hn] at HN hne
 clear hn
 have hta:=h.ka
 have htb:=h.kb
 have HTY:=hid fun W=>zCu x.ka W hta
 have HKY:=hid fun W=>zER x.ka x.kb W hta htb
 have HKF:Hid (xQ x.en=false->vB x.en=false):=fun q=>HNO.out (xQ x.en=true) (by rw [q];decide) fun hm=>(xW hm).key
 have HKT:Hid (yQ x.kind=true->xQ x.en=(decide (x.kb=⟨#[]⟩)&&xM x.ka.data.toList)):=fun q=>by unfold xQ;exact if_pos q
 have HKN:Hid (¬ yQ x.kind=true->xQ x.en=tR x.ka x.kb):=fun q=>by unfold xQ;exact if_neg q
 obtain ⟨t1,ht1⟩:∃t,(decide (x.temp=⟨#[]⟩)||decide (x.kind<=2)&&vI x.temp.data.toList)=t:=⟨_,rfl⟩
 obtain ⟨t2,ht2⟩:∃t,decide (x.iff≠0->3<=x.kind/\x.kind<=5/\0<=x.iff/\x.iff<=999999999)=t:=⟨_,rfl⟩
 obtain ⟨t3,ht3⟩:∃t,decide (x.num≠0->x.kind=7/\0<=x.num/\x.num<=999999999)=t:=⟨_,rfl⟩
 obtain ⟨t4,ht4⟩:∃t,decide (x.stamp≠0->9<=x.kind)=t:=⟨_,rfl⟩
 obtain ⟨t5,ht5⟩:∃t,(decide (x.vo.map Fx.fld≠[]->x.kind<=3)&&xU (x.vo.map Fx.fld))=t:=⟨_,rfl⟩
 obtain ⟨t6,ht6⟩:∃t,(decide (x.eo≠[]↔x.kind=4)&&decide (wK x.eo=0))=t:=⟨_,rfl⟩
 obtain ⟨t7,ht7⟩:∃t,((decide (wA x.po=0)&&decide (uS x.po=x.po))&&decide (x.po≠[]->x.kind=2∨x.kind=8∨x.kind=12))=t:=⟨_,rfl⟩
 have HAL:Hid (vB x.en=(xQ x.en&&t1&&t2&&t3&&t4&&t5&&t6&&t7)):=hid (by
  rw [<-ht1,<-ht2,<-ht3,<-ht4,<-ht5,<-ht6,<-ht7]
  unfold vB
  have:decide (1<=x.en.kind/\x.en.kind<=12)=true:=decide_eq_true ⟨h1,h2⟩
  rw [this]
  simp only [Bool.true_and,Bool.and_assoc]
  rfl)
 have H1:=hid ht1
 have H2:=hid ht2
 have H3:=hid ht3
 have H4:=hid ht4
 have H5:=hid ht5
 have H6:=hid ht6
 have H7:=hid ht7
 clear ht1 ht2 ht3 ht4 ht5 ht6 ht7
 have htt:=h.temp
 have HTE:=hid fun W=>zJ8 x.temp W htt
 have HVL:x.vo.length<=maxLen:=h.fit.1
 have HEL:x.eo.length<=maxLen:=h.efit.1
 have HPL:x.po.length<=maxLen:=h.pfit.1
 have HVM:Hid (∀W,uJ W x->Calls Tryz.prog 84 #[sc x.vp x.vo.length x.vc] W fun e w'=>e=.returned (.bool (xU (x.vo.map Fx.fld)))/\Below W.heap.size W w'):=hid fun W hW=>(zB9 x.vs x.vo W hW.val hW.fit).mono fun e w' ⟨a,b⟩=>⟨a,b.below⟩
 have HEM:Hid (∀W,uJ W x->Calls Tryz.prog 85 #[sc x.ep x.eo.length x.ec] W fun e w'=>e=.returned (ii (wK x.eo))/\w'=W):=hid fun W hW=>zAE x.es x.eo W hW.eds hW.efit
 have HPN:Hid (∀W,uJ W x->Calls Tryz.prog 86 #[sc x.pp x.po.length x.pc] W fun e w'=>∃u,e=.returned (.tuple #[u,ii (wA x.po)])/\KM.Is w' u (wB x.po)/\Below W.heap.size W w'):=hid fun W hW=>(fS x.ps x.po W hW.prd hW.pfit).mono fun e w' ⟨⟨u,a,b⟩,c⟩=>⟨u,a,zE.own_is b,c⟩
 have HPS:Hid (∀W u,uJ W x->KM.Is W u (wB x.po)->Calls Tryz.prog 23 #[u,sc x.pp x.po.length x.pc] W fun e w'=>e=.returned (.bool (decide (wB x.po=x.po)))/\Below W.heap.size W w'):=hid fun W u hW hu=>(zAv u x.ps (wB x.po) x.po W hu hW.prd (by have:=zHE x.po;unfold maxLen;omega)).mono fun e w' ⟨a,n,b⟩=>⟨a,by subst b;exact zP (Below.refl _ _) n⟩
 obtain ⟨c0,-⟩:=HK.out.cells
 have h0:=h
 clear h
 have H:=hid h0
 clear h0
 unfold wR
 have HC:Hid (∀W,pN w N x W->W.cell? (aa N 0)=some (ii x.kind)/\W.cell? (aa N 1)=some (tq x.temp)/\W.cell? (aa N 2)=some (tq x.ka)/\W.cell? (aa N 3)=some (tq x.kb)/\W.cell? (aa N 4)=some (ii x.iff)/\W.cell? (aa N 5)=some (sc x.vp x.vo.length x.vc)/\W.cell? (aa N 6)=some (sc x.ep x.eo.length x.ec)/\W.cell? (aa N 7)=some (sc x.pp x.po.length x.pc)/\W.cell? (aa N 8)=some (iu x.stamp)/\W.cell? (aa N 9)=some (ii x.num)):=fun W hW=>hW.cells
 simp only [yZ,Ex.vs,Ex.es,Ex.ps] at HK c0 ⊢
 go_enter Tryz.func44,Tryz.ntmps44
 go_upto_if 11 with (first|(go_at_call 39;refine (HN.out _).mono ?_;rintro e w1 ⟨rfl,q1⟩;have K1:=hid (HK.out.on q1);clear q1 HK c0))
 go_cut [1,3] from 7 (fun v1 v3 wx=>v1=.pointer (some (aa N 0))/\v3=ii x.kind/\Hid (pN w N x wx))
 case first =>
  as_aux_lemma =>
   go_wp2_with fail
   go_meet
   case rel=>exact ⟨rfl,rfl,K1.out⟩
 case rest =>
  obtain ⟨rfl,rfl,K2⟩:=hcut
  clear K1 hne HN
  go_upto_region 4 with fail
  go_cut [1,3,4] from 7 (fun v1 v3 v4 wx=>v1=.pointer (some (aa N 0))/\v3=ii x.kind/\v4=.bool (yQ x.kind)/\Hid (pN w N x wx))
  case first =>
   as_aux_lemma =>
    by_cases e8:x.kind=8
    ·have HT:Hid (yQ x.kind=true):=by show _=_;rw [e8];rfl
     go_wp2_with fail
     go_meet
     case rel=>exact ⟨rfl,by rw [e8],by rw [HT.out],K2.out⟩
    by_cases e10:x.kind=10
    ·have HT:Hid (yQ x.kind=true):=by show _=_;rw [e10];rfl
     go_wp2_with fail
     go_meet
     case rel=>exact ⟨rfl,by rw [e10],by rw [HT.out],K2.out⟩
    by_cases e12:x.kind=12
    ·have HT:Hid (yQ x.kind=true):=by show _=_;rw [e12];rfl
     go_wp2_with fail
     go_meet
     case rel=>exact ⟨rfl,by rw [e12],by rw [HT.out],K2.out⟩
    have HT:Hid (yQ x.kind=false):=by show _=_;unfold yQ;simp [e8,e10,e12]
    have b8:(x.kind==8)=false:=by rw [beq_eq_false_iff_ne];exact e8
    have b10:(x.kind==10)=false:=by rw [beq_eq_false_iff_ne];exact e10
    have b12:(x.kind==12)=false:=by rw [beq_eq_false_iff_ne];exact e12
    go_wp2_with fail
    go_meet
    case rel=>exact ⟨rfl,rfl,by rw [HT.out],K2.out⟩
  case rest =>
  obtain ⟨rfl,rfl,rfl,K3⟩:=hcut
  clear K2
  go_upto_region 5 with fail
  go_cut [1,3,4,45] from 7 (fun v1 v3 _ v45 wx=>v1=.pointer (some (aa N 0))/\v3=ii x.kind/\v45=.bool (!xQ x.en)/\Hid (pN w N x wx))
  case first =>
   as_aux_lemma =>
    obtain ⟨d0,d1,d2,d3,d4,d5,d6,d7,d8,d9⟩:=HC.out wc K3.out
    cases ht:yQ x.kind with
    | true =>
     have HKE:=hid (HKT.out ht)
     clear HKT HKN
     by_cases eb:x.kb=⟨#[]⟩
     ·have hbe:x.kb.toList.isEmpty=true:=by rw [eb,Lib.toList_data];rfl
      have HKE2:Hid (xQ x.en=xM x.ka.data.toList):=by show _=_;rw [HKE.out,eb];simp
      clear eb
      cases hty:xM x.ka.data.toList
      all_goals
       rw [hty] at HTY HKE2
       clear hty
       go_wp2_with (first|(go_at_call 82;refine (HTY.out _).mono ?_;rintro e w2 ⟨rfl,rfl⟩))
       go_meet
       case rel=>exact ⟨rfl,rfl,by rw [HKE2.out];rfl,K3.out⟩
     ·have hbe:x.kb.toList.isEmpty=false:=by
       rw [Lib.toList_data]
       cases hq:x.kb.data.toList with
       | nil=>exact absurd (dR hq) eb
       | cons _ _=>rfl
      have HKE2:Hid (xQ x.en=false):=by show _=_;rw [HKE.out];simp [eb]
      clear eb
      go_wp2_with fail
      go_meet
      case rel=>exact ⟨rfl,rfl,by rw [HKE2.out];rfl,K3.out⟩
    | false =>
     have HKE:=hid (HKN.out (by rw [ht];decide))
     clear HKT HKN
     go_wp2_with (first|(go_at_call 78;refine (HKY.out _).mono ?_;rintro e w2 ⟨rfl,q2⟩))
     go_meet
     case rel=>exact ⟨rfl,rfl,by rw [HKE.out],K3.out.on q2⟩
  case rest =>
  obtain ⟨rfl,rfl,rfl,K4⟩:=hcut
  clear K3 HKT HKN HTY HKY
  cases hke:xQ x.en with
  | false =>
   have HF:=hid (HKF.out hke)
   go_wp2_with fail
   go_ret
   rw [HF.out]
   exact ⟨rfl,K4.out.bel⟩
  | true =>
   have HKE1:Hid (xQ x.en=true):=hid hke
   clear hke
   go_upto_region 7 with fail
   go_cut [1,3,58] from 7 (fun v1 v3 v58 wx=>v1=.pointer (some (aa N 0))/\v3=ii x.kind/\v58=.bool (!t1)/\Hid (pN w N x wx))
   case first =>
    as_aux_lemma =>
     obtain ⟨-,d1,-⟩:=HC.out _ K4.out
     by_cases q:x.temp=⟨#[]⟩
     ·have hse:x.temp.toList.isEmpty=true:=by rw [q,Lib.toList_data];rfl
      have E:Hid (t1=true):=hid (by rw [<-H1.out];simp [q])
      clear q
      go_wp2_with fail
      go_meet
      case rel=>exact ⟨rfl,rfl,by rw [E.out];rfl,K4.out⟩
     ·have hse:=pJ q
      by_cases q2:2<x.kind
      ·have E:Hid (t1=false):=hid (by rw [<-H1.out];simp [q];omega)
       clear q
       go_wp2_with fail
       go_meet
       case rel=>exact ⟨rfl,rfl,by rw [E.out];rfl,K4.out⟩
      ·have E:Hid (t1=vI x.temp.data.toList):=hid (by rw [<-H1.out,decide_eq_false q,decide_eq_true (show x.kind<=2 by omega)];rfl)
       clear q
       obtain ⟨tb,htb⟩:∃tb,vI x.temp.data.toList=tb:=⟨_,rfl⟩
       rw [htb] at E HTE
       clear htb
       go_wp2_with (first|(go_at_call 83;refine (HTE.out _).mono ?_;rintro e w2 ⟨rfl,rfl⟩))
       go_meet
       case rel=>exact ⟨rfl,rfl,by rw [E.out],K4.out⟩
   case rest =>
   obtain ⟨rfl,rfl,rfl,K5⟩:=hcut
   clear K4 HTE
   cases t1 with
   | false =>
    go_wp2_with fail
    go_ret
    exact ⟨by rw [HAL.out];simp,K5.out.bel⟩
   | true =>
   go_upto_region 9 with fail
   go_cut [1,3,79] from 7 (fun v1 v3 v79 wx=>v1=.pointer (some (aa N 0))/\v3=ii x.kind/\v79=.bool (!t2)/\Hid (pN w N x wx))
   case first =>
    as_aux_lemma =>
     obtain ⟨-,-,-,-,d4,-⟩:=HC.out _ K5.out
     by_cases q:x.iff=0
     ·skip
      have E:Hid (t2=true):=hid (by rw [<-H2.out];exact decide_eq_true (by omega))
      go_wp2_with fail
      go_meet
      case rel=>exact ⟨rfl,by first|rfl|simp [*],by rw [E.out];rfl,K5.out⟩
     have Bq:(x.iff==0)=false:=by rw [beq_eq_false_iff_ne];exact q
     have Cq:(x.iff != 0)=true:=by rw [bne_iff_ne];exact q
     by_cases r1:x.kind<3
     ·skip
      have E:Hid (t2=false):=hid (by rw [<-H2.out];exact decide_eq_false (by omega))
      go_wp2_with fail
      go_meet
      case rel=>exact ⟨rfl,by first|rfl|simp [*],by rw [E.out];rfl,K5.out⟩
     by_cases r2:5<x.kind
     ·skip
      have E:Hid (t2=false):=hid (by rw [<-H2.out];exact decide_eq_false (by omega))
      go_wp2_with fail
      go_meet
      case rel=>exact ⟨rfl,by first|rfl|simp [*],by rw [E.out];rfl,K5.out⟩
     by_cases r3:x.iff<0
     ·skip
      have E:Hid (t2=false):=hid (by rw [<-H2.out];exact decide_eq_false (by omega))
      go_wp2_with fail
      go_meet
      case rel=>exact ⟨rfl,by first|rfl|simp [*],by rw [E.out];rfl,K5.out⟩
     by_cases r4:999999999<x.iff
     ·skip
      have E:Hid (t2=false):=hid (by rw [<-H2.out];exact decide_eq_false (by omega))
      go_wp2_with fail
      go_meet
      case rel=>exact ⟨rfl,by first|rfl|simp [*],by rw [E.out];rfl,K5.out⟩
     have E:Hid (t2=true):=hid (by rw [<-H2.out];exact decide_eq_true (by omega))
     clear q
     go_wp2_with fail
     go_meet
     case rel=>exact ⟨rfl,by first|rfl|simp [*],by rw [E.out];rfl,K5.out⟩
   case rest =>
   obtain ⟨rfl,rfl,rfl,K6⟩:=hcut
   clear K5
   cases t2 with
   | false =>
    go_wp2_with fail
    go_ret
    exact ⟨by rw [HAL.out];simp,K6.out.bel⟩
   | true =>
   go_upto_region 11 with fail
   go_cut [1,3,96] from 7 (fun v1 v3 v96 wx=>v1=.pointer (some (aa N 0))/\v3=ii x.kind/\v96=.bool (!t3)/\Hid (pN w N x wx))
   case first =>
    as_aux_lemma =>
     obtain ⟨-,-,-,-,-,-,-,-,-,d9⟩:=HC.out _ K6.out
     by_cases q:x.num=0
     ·skip
      have E:Hid (t3=true):=hid (by rw [<-H3.out];exact decide_eq_true (by omega))
      go_wp2_with fail
      go_meet
      case rel=>exact ⟨rfl,by first|rfl|simp [*],by rw [E.out];rfl,K6.out⟩
     have Bq:(x.num==0)=false:=by rw [beq_eq_false_iff_ne];exact q
     have Cq:(x.num != 0)=true:=by rw [bne_iff_ne];exact q
     by_cases r1:¬ x.kind=7
     ·have Br1:(x.kind==7)=false:=by rw [beq_eq_false_iff_ne];exact r1
      have Cr1:(x.kind != 7)=true:=by rw [bne_iff_ne];exact r1
      have E:Hid (t3=false):=hid (by rw [<-H3.out];exact decide_eq_false (by omega))
      clear r1
      go_wp2_with fail
      go_meet
      case rel=>exact ⟨rfl,by first|rfl|simp [*],by rw [E.out];rfl,K6.out⟩
     have k7:x.kind=7:=by omega
     have HK7:Hid (x.kind=7):=hid k7
     by_cases r3:x.num<0
     ·skip
      have E:Hid (t3=false):=hid (by rw [<-H3.out];exact decide_eq_false (by omega))
      go_wp2_with fail
      clear k7
      try rw [<-HK7.out]
      go_meet
      case rel=>exact ⟨rfl,by first|rfl|simp [*],by rw [E.out];rfl,K6.out⟩
     by_cases r4:999999999<x.num
     ·skip
      have E:Hid (t3=false):=hid (by rw [<-H3.out];exact decide_eq_false (by omega))
      go_wp2_with fail
      clear k7
      try rw [<-HK7.out]
      go_meet
      case rel=>exact ⟨rfl,by first|rfl|simp [*],by rw [E.out];rfl,K6.out⟩
     have E:Hid (t3=true):=hid (by rw [<-H3.out];exact decide_eq_true (by omega))
     clear q r1
     go_wp2_with fail
     clear k7
     try rw [<-HK7.out]
     go_meet
     case rel=>exact ⟨rfl,by first|rfl|simp [*],by rw [E.out];rfl,K6.out⟩
   case rest =>
   obtain ⟨rfl,rfl,rfl,K7⟩:=hcut
   clear K6
   cases t3 with
   | false =>
    go_wp2_with fail
    go_ret
    exact ⟨by rw [HAL.out];simp,K7.out.bel⟩
   | true =>
   go_upto_region 13 with fail
   go_cut [1,3,103] from 7 (fun v1 v3 v103 wx=>v1=.pointer (some (aa N 0))/\v3=ii x.kind/\v103=.bool (!t4)/\Hid (pN w N x wx))
   case first =>
    as_aux_lemma =>
     obtain ⟨-,-,-,-,-,-,-,-,d8,-⟩:=HC.out _ K7.out
     by_cases q:x.stamp=0
     ·skip
      have E:Hid (t4=true):=hid (by rw [<-H4.out];exact decide_eq_true (by omega))
      go_wp2_with fail
      go_meet
      case rel=>exact ⟨rfl,by first|rfl|simp [*],by rw [E.out];rfl,K7.out⟩
     have Bq:(x.stamp==0)=false:=by rw [beq_eq_false_iff_ne];exact q
     have Cq:(x.stamp != 0)=true:=by rw [bne_iff_ne];exact q
     by_cases r1:x.kind<9
     ·skip
      have E:Hid (t4=false):=hid (by rw [<-H4.out];exact decide_eq_false (by omega))
      go_wp2_with fail
      go_meet
      case rel=>exact ⟨rfl,by first|rfl|simp [*],by rw [E.out];rfl,K7.out⟩
     have E:Hid (t4=true):=hid (by rw [<-H4.out];exact decide_eq_true (by omega))
     clear q
     go_wp2_with fail
     go_meet
     case rel=>exact ⟨rfl,by first|rfl|simp [*],by rw [E.out];rfl,K7.out⟩
   case rest =>
   obtain ⟨rfl,rfl,rfl,K8⟩:=hcut
   clear K7
   cases t4 with
   | false =>
    go_wp2_with fail
    go_ret
    exact ⟨by rw [HAL.out];simp,K8.out.bel⟩
   | true =>
   go_upto_region 15 with fail
   go_cut [1,3,117] from 7 (fun v1 v3 v117 wx=>v1=.pointer (some (aa N 0))/\v3=ii x.kind/\v117=.bool (!t5)/\Hid (pN w N x wx))
   case first =>
    as_aux_lemma =>
     obtain ⟨-,-,-,-,-,d5,-⟩:=HC.out _ K8.out
     have HZ:Hid (∀n:Nat,x.vo.length=n->(x.vo.map Fx.fld≠[]↔0<n)):=hid fun n hn=>by
      rw [<-hn]
      cases x.vo<;>simp
     obtain ⟨mb,hmb⟩:∃mb,xU (x.vo.map Fx.fld)=mb:=⟨_,rfl⟩
     rw [hmb] at HVM H5
     clear hmb
     by_cases q:0<x.vo.length
     ·have qz:(0:Int)<(x.vo.length:Int):=by omega
      by_cases r:3<x.kind
      ·have E:Hid (t5=false):=hid (by
        rw [<-H5.out,decide_eq_false (by rw [HZ.out _ rfl];omega)]
        rfl)
       clear q
       go_wp2_with fail
       go_meet
       case rel=>exact ⟨rfl,rfl,by rw [E.out];rfl,K8.out⟩
      ·have E:Hid (t5=mb):=hid (by
        rw [<-H5.out,decide_eq_true (by intro _;omega),Bool.true_and])
       clear q
       go_wp2_with (first|(go_at_call 84;refine (HVM.out _ K8.out.ex).mono ?_;rintro e w2 ⟨rfl,q2⟩))
       go_meet
       case rel=>exact ⟨rfl,rfl,by rw [E.out],K8.out.on q2⟩
     ·have qz:¬ (0:Int)<(x.vo.length:Int):=by omega
      have E:Hid (t5=mb):=hid (by
       rw [<-H5.out,decide_eq_true (by rw [HZ.out _ rfl];omega),Bool.true_and])
      clear q
      go_wp2_with (first|(go_at_call 84;refine (HVM.out _ K8.out.ex).mono ?_;rintro e w2 ⟨rfl,q2⟩))
      go_meet
      case rel=>exact ⟨rfl,rfl,by rw [E.out],K8.out.on q2⟩
   case rest =>
   obtain ⟨rfl,rfl,rfl,K9⟩:=hcut
   clear K8 HVM
   cases t5 with
   | false =>
    go_wp2_with fail
    go_ret
    exact ⟨by rw [HAL.out];simp,K9.out.bel⟩
   | true =>
   go_upto_region 17 with fail
   go_cut [1,3,130] from 7 (fun v1 v3 v130 wx=>v1=.pointer (some (aa N 0))/\v3=ii x.kind/\v130=.bool (!t6)/\Hid (pN w N x wx))
   case first =>
    as_aux_lemma =>
     obtain ⟨-,-,-,-,-,-,d6,-⟩:=HC.out _ K9.out
     have HZ:Hid (∀n:Nat,x.eo.length=n->(x.eo≠[]↔0<n)):=hid fun n hn=>by
      rw [<-hn]
      cases x.eo<;>simp
     obtain ⟨me,hme⟩:∃me,wK x.eo=me:=⟨_,rfl⟩
     rw [hme] at HEM H6
     clear hme
     have key:∀(bz:Bool),(decide (x.eo≠[]↔x.kind=4)=bz)->Hid (t6=(bz&&decide (me=0))):=fun bz hbz=>hid (by rw [<-H6.out,hbz])
     have KEY:=hid key
     clear key
     obtain ⟨ne,hne⟩:∃n,x.eo.length=n:=⟨_,rfl⟩
     have HNE:=hid hne
     rw [hne] at d6 HEM HEL
     clear hne
     by_cases q:ne=0
     ·subst q
      by_cases r:x.kind=4
      ·have HK4:Hid (x.kind=4):=hid r
       have E:=KEY.out false (decide_eq_false (by rw [HZ.out _ HNE.out];omega))
       have E2:Hid (t6=false):=hid (by rw [E.out];rfl)
       clear KEY E
       go_wp2_with fail
       clear r
       try rw [<-HK4.out]
       go_meet
       case rel=>exact ⟨rfl,by first|rfl|simp [*],by rw [E2.out];rfl,K9.out⟩
      ·have E:=KEY.out true (decide_eq_true (by rw [HZ.out _ HNE.out];omega))
       have b4:(x.kind==4)=false:=by rw [beq_eq_false_iff_ne];exact r
       clear r KEY
       by_cases z:me=0
       ·subst z
        have E2:Hid (t6=true):=hid (by rw [E.out];rfl)
        clear E
        go_wp2_with (first|(go_at_call 85;refine (HEM.out _ K9.out.ex).mono ?_;rintro e w2 ⟨rfl,rfl⟩))
        go_meet
        case rel=>exact ⟨rfl,by first|rfl|simp [*],by rw [E2.out];rfl,K9.out⟩
       ·have bz:(me==0)=false:=by rw [beq_eq_false_iff_ne];exact z
        have cz:(me != 0)=true:=by rw [bne_iff_ne];exact z
        have E2:Hid (t6=false):=hid (by rw [E.out,decide_eq_false z];rfl)
        clear z E
        go_wp2_with (first|(go_at_call 85;refine (HEM.out _ K9.out.ex).mono ?_;rintro e w2 ⟨rfl,rfl⟩))
        go_meet
        case rel=>exact ⟨rfl,by first|rfl|simp [*],by rw [E2.out];rfl,K9.out⟩
     ·have qz:(0:Int)<(ne:Int):=by omega
      by_cases r:x.kind=4
      ·have HK4:Hid (x.kind=4):=hid r
       have E:=KEY.out true (decide_eq_true (by rw [HZ.out _ HNE.out];omega))
       clear q KEY
       by_cases z:me=0
       ·subst z
        have E2:Hid (t6=true):=hid (by rw [E.out];rfl)
        clear E
        go_wp2_with (first|(go_at_call 85;refine (HEM.out _ K9.out.ex).mono ?_;rintro e w2 ⟨rfl,rfl⟩))
        clear r
        try rw [<-HK4.out]
        go_meet
        case rel=>exact ⟨rfl,by first|rfl|simp [*],by rw [E2.out];rfl,K9.out⟩
       ·have bz:(me==0)=false:=by rw [beq_eq_false_iff_ne];exact z
        have cz:(me != 0)=true:=by rw [bne_iff_ne];exact z
        have E2:Hid (t6=false):=hid (by rw [E.out,decide_eq_false z];rfl)
        clear z E
        go_wp2_with (first|(go_at_call 85;refine (HEM.out _ K9.out.ex).mono ?_;rintro e w2 ⟨rfl,rfl⟩))
        clear r
        try rw [<-HK4.out]
        go_meet
        case rel=>exact ⟨rfl,by first|rfl|simp [*],by rw [E2.out];rfl,K9.out⟩
      ·have E:=KEY.out false (decide_eq_false (by rw [HZ.out _ HNE.out];omega))
       have b4:(x.kind==4)=false:=by rw [beq_eq_false_iff_ne];exact r
       have E2:Hid (t6=false):=hid (by rw [E.out];rfl)
       clear q r KEY E
       go_wp2_with fail
       go_meet
       case rel=>exact ⟨rfl,by first|rfl|simp [*],by rw [E2.out];rfl,K9.out⟩
   case rest =>
   obtain ⟨rfl,rfl,rfl,Ka⟩:=hcut
   clear K9 HEM
   cases t6 with
   | false =>
    go_wp2_with fail
    go_ret
    exact ⟨by rw [HAL.out];simp,Ka.out.bel⟩
   | true =>
   as_aux_lemma =>
    obtain ⟨d0,d1,d2,d3,d4,d5,d6,d7,d8,d9⟩:=HC.out _ Ka.out
    have HX2:=hid Ka.out.ex
    obtain ⟨mm,hmm⟩:∃mm,wA x.po=mm:=⟨_,rfl⟩
    obtain ⟨sm,hsm⟩:∃sm,decide (wB x.po=x.po)=sm:=⟨_,rfl⟩
    have HS7:Hid (mm=0->t7=(sm&&decide (x.po≠[]->x.kind=2∨x.kind=8∨x.kind=12))):=hid fun hz=>by
     have e:wB x.po=uS x.po:=by unfold wB;rw [hmm,if_pos hz]
     rw [<-H7.out,<-hsm,e,hmm,decide_eq_true hz,Bool.true_and]
    have HS0:Hid (¬ mm=0->t7=false):=hid fun hz=>by rw [<-H7.out,hmm,decide_eq_false hz];rfl
    have HZ:Hid (x.po≠[]↔0<x.po.length):=hid (by cases x.po<;>simp)
    rw [hmm] at HPN
    rw [hsm] at HPS
    clear hmm hsm
    by_cases z:mm=0
    case neg =>
     have E:=hid (HS0.out z)
     have bz:(mm==0)=false:=by rw [beq_eq_false_iff_ne];exact z
     clear z
     go_wp2_with (first|(go_at_call 86;refine (HPN.out _ HX2.out).mono ?_;rintro e w2 ⟨u,rfl,hu,hb2⟩;have K2:=hid (Ka.out.on hb2);clear hb2 hu))
     go_ret
     exact ⟨by rw [HAL.out,HKE1.out,E.out];rfl,K2.out.bel⟩
    have E0:=hid (HS7.out z)
    have bz:(mm==0)=true:=by rw [z];rfl
    clear z
    cases sm with
    | false =>
     have E:Hid (t7=false):=hid (by rw [E0.out];rfl)
     go_wp2_with (first|(go_at_call 86;refine (HPN.out _ HX2.out).mono ?_;rintro e w2 ⟨u,rfl,hu,hb2⟩;have K2:=hid (Ka.out.on hb2);have HU:=hid hu;have HX3:=hid K2.out.ex;obtain ⟨f0,f1,f2,f3,f4,f5,f6,f7,f8,f9⟩:=HC.out _ K2.out;clear hb2 hu)|(go_at_call 23;refine (HPS.out _ _ HX3.out HU.out).mono ?_;rintro e w3 ⟨rfl,hb3⟩;have K3:=hid (K2.out.on hb3);obtain ⟨g0,g1,g2,g3,g4,g5,g6,g7,g8,g9⟩:=HC.out _ K3.out;clear hb3))
     go_ret
     exact ⟨by rw [HAL.out,HKE1.out,E.out];rfl,K3.out.bel⟩
    | true =>
     by_cases p0:x.po.length=0
     case pos =>
      have E:Hid (t7=true):=hid (by rw [E0.out,decide_eq_true (by rw [HZ.out];omega)];rfl)
      have bp:((x.po.length:Int)==0)=true:=by rw [beq_iff_eq];omega
      clear p0
      go_wp2_with (first|(go_at_call 86;refine (HPN.out _ HX2.out).mono ?_;rintro e w2 ⟨u,rfl,hu,hb2⟩;have K2:=hid (Ka.out.on hb2);have HU:=hid hu;have HX3:=hid K2.out.ex;obtain ⟨f0,f1,f2,f3,f4,f5,f6,f7,f8,f9⟩:=HC.out _ K2.out;clear hb2 hu)|(go_at_call 23;refine (HPS.out _ _ HX3.out HU.out).mono ?_;rintro e w3 ⟨rfl,hb3⟩;have K3:=hid (K2.out.on hb3);obtain ⟨g0,g1,g2,g3,g4,g5,g6,g7,g8,g9⟩:=HC.out _ K3.out;clear hb3))
      go_ret
      exact ⟨by rw [HAL.out,HKE1.out,E.out];rfl,K3.out.bel⟩
     have bp:((x.po.length:Int)==0)=false:=by rw [beq_eq_false_iff_ne];omega
     by_cases k2:x.kind=2
     case pos =>
      have E:Hid (t7=true):=hid (by rw [E0.out,decide_eq_true (by intro _;omega)];rfl)
      have b2:(x.kind==2)=true:=by rw [beq_iff_eq];exact k2
      clear p0 k2
      go_wp2_with (first|(go_at_call 86;refine (HPN.out _ HX2.out).mono ?_;rintro e w2 ⟨u,rfl,hu,hb2⟩;have K2:=hid (Ka.out.on hb2);have HU:=hid hu;have HX3:=hid K2.out.ex;obtain ⟨f0,f1,f2,f3,f4,f5,f6,f7,f8,f9⟩:=HC.out _ K2.out;clear hb2 hu)|(go_at_call 23;refine (HPS.out _ _ HX3.out HU.out).mono ?_;rintro e w3 ⟨rfl,hb3⟩;have K3:=hid (K2.out.on hb3);obtain ⟨g0,g1,g2,g3,g4,g5,g6,g7,g8,g9⟩:=HC.out _ K3.out;clear hb3))
      go_ret
      exact ⟨by rw [HAL.out,HKE1.out,E.out];rfl,K3.out.bel⟩
     have b2:(x.kind==2)=false:=by rw [beq_eq_false_iff_ne];exact k2
     by_cases k8:x.kind=8
     case pos =>
      have E:Hid (t7=true):=hid (by rw [E0.out,decide_eq_true (by intro _;omega)];rfl)
      have b8:(x.kind==8)=true:=by rw [beq_iff_eq];exact k8
      clear p0 k8
      go_wp2_with (first|(go_at_call 86;refine (HPN.out _ HX2.out).mono ?_;rintro e w2 ⟨u,rfl,hu,hb2⟩;have K2:=hid (Ka.out.on hb2);have HU:=hid hu;have HX3:=hid K2.out.ex;obtain ⟨f0,f1,f2,f3,f4,f5,f6,f7,f8,f9⟩:=HC.out _ K2.out;clear hb2 hu)|(go_at_call 23;refine (HPS.out _ _ HX3.out HU.out).mono ?_;rintro e w3 ⟨rfl,hb3⟩;have K3:=hid (K2.out.on hb3);obtain ⟨g0,g1,g2,g3,g4,g5,g6,g7,g8,g9⟩:=HC.out _ K3.out;clear hb3))
      go_ret
      exact ⟨by rw [HAL.out,HKE1.out,E.out];rfl,K3.out.bel⟩
     have b8:(x.kind==8)=false:=by rw [beq_eq_false_iff_ne];exact k8
     by_cases k12:x.kind=12
     case pos =>
      have E:Hid (t7=true):=hid (by rw [E0.out,decide_eq_true (by intro _;omega)];rfl)
      have b12:(x.kind==12)=true:=by rw [beq_iff_eq];exact k12
      clear p0 k12
      go_wp2_with (first|(go_at_call 86;refine (HPN.out _ HX2.out).mono ?_;rintro e w2 ⟨u,rfl,hu,hb2⟩;have K2:=hid (Ka.out.on hb2);have HU:=hid hu;have HX3:=hid K2.out.ex;obtain ⟨f0,f1,f2,f3,f4,f5,f6,f7,f8,f9⟩:=HC.out _ K2.out;clear hb2 hu)|(go_at_call 23;refine (HPS.out _ _ HX3.out HU.out).mono ?_;rintro e w3 ⟨rfl,hb3⟩;have K3:=hid (K2.out.on hb3);obtain ⟨g0,g1,g2,g3,g4,g5,g6,g7,g8,g9⟩:=HC.out _ K3.out;clear hb3))
      go_ret
      exact ⟨by rw [HAL.out,HKE1.out,E.out];rfl,K3.out.bel⟩
     have b12:(x.kind==12)=false:=by rw [beq_eq_false_iff_ne];exact k12
     have E:Hid (t7=false):=hid (by rw [E0.out,decide_eq_false (by rw [HZ.out];omega)];rfl)
     clear p0 k2 k8 k12
     go_wp2_with (first|(go_at_call 86;refine (HPN.out _ HX2.out).mono ?_;rintro e w2 ⟨u,rfl,hu,hb2⟩;have K2:=hid (Ka.out.on hb2);have HU:=hid hu;have HX3:=hid K2.out.ex;obtain ⟨f0,f1,f2,f3,f4,f5,f6,f7,f8,f9⟩:=HC.out _ K2.out;clear hb2 hu)|(go_at_call 23;refine (HPS.out _ _ HX3.out HU.out).mono ?_;rintro e w3 ⟨rfl,hb3⟩;have K3:=hid (K2.out.on hb3);obtain ⟨g0,g1,g2,g3,g4,g5,g6,g7,g8,g9⟩:=HC.out _ K3.out;clear hb3))
     go_ret
     exact ⟨by rw [HAL.out,HKE1.out,E.out];rfl,K3.out.bel⟩
end
section
open Go.RowKit Go.Lib
theorem zGM (x:Ex) (w:World) (h:uJ w x) :
  Calls Tryz.prog 44 #[wR x] w fun e w'=>e=.returned (.bool (vB x.en))/\Below w.heap.size w w':=by
 by_cases hr:1<=x.kind/\x.kind<=12
 ·exact zIr x w h hr.1 hr.2
 ·exact zG6 x w h hr
theorem zBW (once:Bool) (v:Value) (d:List Ex) (w:World) (hd:nP w v d) :
  Calls Tryz.prog 20 #[.agg #[.bool once,v]] w fun e w'=>e=.returned (.bool (uD (d.map Ex.en)))/\Below w.heap.size w w':=by
 have HD:=hid hd;obtain ⟨a,cap,rfl,hrow⟩:=hd.row;have hlen:=hd.len;have HR:=hid hrow;have HAL:Hid (Below w.heap.size w (w.alloc (.cells #[.bool once,sc a d.length cap] 25))):=hid ((Below.refl _ _).alloc (Nat.le_refl _) _);have HBX:Hid ((w.alloc (.cells #[.bool once,sc a d.length cap] 25)).heap[w.heap.size]? = some (.cells #[.bool once,sc a d.length cap] 25 (0,0))):=hid (heap_alloc_new w _)
 have HM:Hid (uD (d.map Ex.en)=(decide (0<d.length)&&decide (d.length<=16)&&d.all fun x=>vB x.en)):=hid (by
  unfold uD;rw [List.length_map,List.all_map];rfl)
 clear hd hrow;go_enter Tryz.func20,Tryz.ntmps20;go_wp2_with fail
 go_loopg [3] d.length (fun g vi wr=>∃(i:Nat),vi=ii i/\i<=d.length/\i<=16/\d.length-i<=g/\Hid (Below w.heap.size w wr)/\Hid (wr.heap[w.heap.size]? = some (.cells #[.bool once,sc a d.length cap] 25 (0,0)))/\Hid ((d.take i).all (fun x=>vB x.en)=true))
 case atStart=>exact ⟨0,rfl,by omega,by omega,by omega,HAL,HBX,hid rfl⟩
 case round =>
  obtain ⟨i,rfl,hi,h16,hig,HB,HQ,HA⟩:=hrel;have r2:wr.cell? (aa w.heap.size 1)=some (sc a d.length cap):=by rw [Lib.cell_of_heap HQ.out];rfl
  by_cases hlt:i<d.length
  ·have HLT:=hid hlt;have hltz:(i:Int)<(d.length:Int):=by omega
   have hiz:(0:Int)<=(i:Int):=by omega
   by_cases e16:i=16
   ·have bz:((i:Int)==16)=true:=by rw [beq_iff_eq];omega
    have HF:Hid (uD (d.map Ex.en)=false):=hid (by rw [HM.out,decide_eq_false (by omega:¬ d.length<=16)];simp);clear e16;go_wp2_with fail;go_ret;exact ⟨by first|(rw [HF.out];done)|(rw [HF.out];rfl),HB.out⟩
   have bz:((i:Int)==16)=false:=by rw [beq_eq_false_iff_ne];omega
   obtain ⟨b,off,rfl,hat⟩:∃b off,a=some (aa b off)/\KEx.At w b off d:=by
    rcases HR.out with h|⟨b,off,h1,h2⟩
    ·rw [h] at hlt;simp at hlt
    ·exact ⟨b,off,h1,h2⟩
   obtain ⟨y,hy⟩:∃y,d[i]? = some y:=⟨_,List.getElem?_eq_getElem hlt⟩;obtain ⟨c0,c1,c2,c3,c4,c5,c6,c7,c8,c9⟩:=vF (zE.at_kept hat HB.out) i y hy;simp only [Nat.add_zero] at c0;have hmem:=List.mem_of_getElem? hy
   have HTK:Hid (d.take (i+1)=d.take i++[y]):=hid (by
    obtain ⟨h1,h2⟩:=List.getElem?_eq_some_iff.1 hy;rw [<-h2];exact List.take_succ_eq_append_getElem h1)
   have HMEM:=hid hmem;have HMY:Hid (Calls Tryz.prog 44 #[.agg (vE y)] wr fun e w'=>e=.returned (.bool (vB y.en))/\Below wr.heap.size wr w'):=hid (zGM y wr ((HD.out.each y HMEM.out).on HB.out));have h15:i+1<=16:=by omega
   clear hy hmem hat e16
   cases hm:vB y.en with
   | false =>
    have HF:Hid (uD (d.map Ex.en)=false):=hid (by
     have:(d.all fun x=>vB x.en)=false:=by
      rw [List.all_eq_false];exact ⟨y,HMEM.out,by rw [hm];simp⟩
     rw [HM.out,this];simp)
    rw [hm] at HMY;clear hm;go_wp2_with (first|(go_at_call 44;refine HMY.out.mono ?_;rintro e w4 ⟨rfl,hb4⟩;have HB4:=hid (HB.out.trans (hb4.mono HB.out.size));clear hb4));go_ret;exact ⟨by first|(rw [HF.out];done)|(rw [HF.out];rfl),HB4.out⟩
   | true =>
    have HA2:Hid ((d.take (i+1)).all (fun x=>vB x.en)=true):=hid (by rw [HTK.out,List.all_append,HA.out];simp [hm]);rw [hm] at HMY;clear hm;go_wp2_with (first|(go_at_call 44;refine HMY.out.mono ?_;rintro e w4 ⟨rfl,hb4⟩;have HB4:=hid (HB.out.trans (hb4.mono HB.out.size));have HQ4:=hid ((hb4.block _ (Array.getElem?_eq_some_iff.1 HQ.out).1).trans HQ.out);clear hb4));go_roundg (d.length-(i+1))
    case measure=>omega
    exact ⟨i+1,by go_num,HLT.out,h15,Nat.le_refl _,HB4,HQ4,HA2⟩
  ·have hltz:¬ (i:Int)<(d.length:Int):=by omega
   have HF:Hid (uD (d.map Ex.en)=decide (0<d.length)):=hid (by
    have:=HA.out;rw [List.take_of_length_le (by omega)] at this;rw [HM.out,this,decide_eq_true (by omega:d.length<=16),Bool.and_true,Bool.and_true])
   go_wp2_with fail
   go_ret;exact ⟨by rw [HF.out];rfl,HB.out⟩
end
section
open Go.RowKit Go.Lib
theorem m0B:xU ([]:List Fld)=true:=by decide
theorem m0E:wK ([]:List Ed)=0:=by decide
theorem m0M:wA ([]:List Tm)=0:=by decide
theorem s0M:uS ([]:List Tm)=[]:=rfl
theorem vV {e:En} (h:nG e):vB e=true:=by
 unfold vB;simp only [Bool.and_eq_true,Bool.or_eq_true,decide_eq_true_eq];exact ⟨⟨⟨⟨⟨⟨⟨⟨⟨⟨⟨⟨h.k1,h.k2⟩,h.key⟩,h.tmp⟩,h.iff⟩,h.num⟩,h.stamp⟩,h.val⟩,h.mayv⟩,h.eds⟩,h.maye⟩,⟨h.mayp,h.srt⟩⟩,h.pred⟩
theorem zEb {x:Ex} (h:pO x=true):(1<=x.kind/\x.kind<=12)/\(zN x.kind.toNat).all (uQ x.en)=true/\(sA x (zN x.kind.toNat)).en=(vG 0).en:=by
 unfold pO at h;simp only [Bool.and_eq_true,decide_eq_true_eq] at h;exact ⟨h.1.1,h.1.2,h.2⟩
theorem zHq (x:Ex):pO x=vB x.en:=by
 by_cases hr:1<=x.kind/\x.kind<=12
 case neg =>
  have h1:pO x=false:=by unfold pO;rw [decide_eq_false hr];rfl
  have h2:vB x.en=false:=by
   cases hm:vB x.en with
   | false=>rfl
   | true=>exact absurd ⟨(xW hm).k1,(xW hm).k2⟩ hr
  rw [h1,h2]
 obtain ⟨k,t,a,b,i,vp,vc,vo,ep,ec,eo,pp,pc,po,s,n⟩:=x;simp only at hr;have hk:k=1∨k=2∨k=3∨k=4∨k=5∨k=6∨k=7∨k=8∨k=9∨k=10∨k=11∨k=12:=by omega
 clear hr;rw [Bool.eq_iff_iff];constructor
 ·intro h;obtain ⟨hr,hf,hz⟩:=zEb h;apply vV
  rcases hk with rfl|rfl|rfl|rfl|rfl|rfl|rfl|rfl|rfl|rfl|rfl|rfl
  all_goals
   simp [zN,uQ,sA,wout,Ex.en,vG,nT] at hf hz
   constructor<;>simp_all [Ex.en,xQ,yQ,m0B,m0E,m0M,s0M]
 ·intro h;have hp:=xW h;obtain ⟨h1,h2,h3,h4,h5,h6,h7,h8,h9,h10,h11,h12,h13,h14⟩:=hp;unfold pO
  rcases hk with rfl|rfl|rfl|rfl|rfl|rfl|rfl|rfl|rfl|rfl|rfl|rfl
  all_goals
   simp [Ex.en,xQ,yQ] at h1 h2 h3 h4 h5 h6 h7 h8 h9 h10 h11 h12 h13 h14
   simp [zN,uQ,sA,wout,Ex.en,vG,nT]
   simp_all
   try omega
   try exact of_decide_eq_true h3.1
end
section
open Go.RowKit Go.Lib
def uV (w:List (List UInt8)):Prop:=∀x∈w,x≠[]/\(32:UInt8) ∉ x
theorem uV.tail {x:List UInt8} {w:List (List UInt8)} (h:uV (x::w)):uV w:=fun y hy=>h y (List.mem_cons_of_mem _ hy)
theorem uV.drop {w:List (List UInt8)} (h:uV w) (n:Nat):uV (w.drop n):=fun y hy=>h y (List.mem_of_mem_drop hy)
theorem zK8 (e:En) (x:List UInt8):xJ e 1 x=if x=[]∨vI (sK x)=true then some { e with temp:=⟨(sK x).toArray⟩ } else none:=by unfold xJ;simp
theorem zET (ps:List Nat) (e:En) (w:List (List UInt8)):zH (2::ps) e w=match w with | []=>none|x::w'=>(tJ x).bind fun k=>zH ps { e with ka:=k.1,kb:=k.2 } w':=by
 cases w with
 | nil=>rfl
 | cons x w =>
  have hs:uM (x::w) 2=1:=rfl;rw [zH,hs,if_neg (by simp)];simp only [List.take_succ_cons,List.take_zero,List.drop_succ_cons,List.drop_zero,xC];have hr:xJ e 2 x=(tJ x).map fun k=>{ e with ka:=k.1,kb:=k.2 }:=by unfold xJ;simp
  rw [hr]
  cases tJ x<;>rfl
theorem zFB (ps:List Nat) (e:En) (w:List (List UInt8)):zH (3::ps) e w=match w with | []=>none|x::w'=>if xM x=true then zH ps { e with ka:=⟨x.toArray⟩ } w' else none:=by
 cases w with
 | nil=>rfl
 | cons x w =>
  have hs:uM (x::w) 3=1:=rfl;rw [zH,hs,if_neg (by simp)];simp only [List.take_succ_cons,List.take_zero,List.drop_succ_cons,List.drop_zero,xC];have hr:xJ e 3 x=if xM x=true then some { e with ka:=⟨x.toArray⟩ } else none:=by unfold xJ;simp
  rw [hr]
  split<;>rfl
theorem zFV (ps:List Nat) (e:En) (w:List (List UInt8)):zH (9::ps) e w=match w with | []=>none|x::w'=>(xH 999999999 x).bind fun n=>zH ps { e with num:=(n:Int) } w':=by
 cases w with
 | nil=>rfl
 | cons x w =>
  have hs:uM (x::w) 9=1:=rfl;rw [zH,hs,if_neg (by simp)];simp only [List.take_succ_cons,List.take_zero,List.drop_succ_cons,List.drop_zero,xC];have hr:xJ e 9 x=(xH 999999999 x).map fun (n:Nat)=>{ e with num:=(n:Int) }:=by unfold xJ;simp
  rw [hr]
  cases xH 999999999 x<;>rfl
theorem zGA (ps:List Nat) (e:En) (w:List (List UInt8)):zH (10::ps) e w=match w with | []=>none|x::w'=>(xH 18446744073709551615 x).bind fun n=>zH ps { e with stamp:=(n:Int) } w':=by
 cases w with
 | nil=>rfl
 | cons x w =>
  have hs:uM (x::w) 10=1:=rfl;rw [zH,hs,if_neg (by simp)];simp only [List.take_succ_cons,List.take_zero,List.drop_succ_cons,List.drop_zero,xC];have hr:xJ e 10 x=(xH 18446744073709551615 x).map fun (n:Nat)=>{ e with stamp:=(n:Int) }:=by unfold xJ;simp
  rw [hr]
  cases xH 18446744073709551615 x<;>rfl
theorem zEV (ps:List Nat) (e:En) (w:List (List UInt8)):zH (6::ps) e w=match w with | []=>none|x::w'=>if x=[63] then zH ps e w' else none:=by
 cases w with
 | nil=>rfl
 | cons x w =>
  have hs:uM (x::w) 6=1:=rfl;rw [zH,hs,if_neg (by simp)];simp only [List.take_succ_cons,List.take_zero,List.drop_succ_cons,List.drop_zero,xC];have hr:xJ e 6 x=if x=[63] then some e else none:=by unfold xJ;simp
  rw [hr]
  split<;>rfl
theorem zBR (ps:List Nat) (e:En) (w:List (List UInt8)) (hw:uV w):zH (7::ps) e w=(pC w).bind fun v=>zH ps { e with pred:=v } []:=by
 have hs:uM w 7=w.length:=rfl;rw [zH,hs,if_neg (by omega),List.take_length,List.drop_length];have hr:xJ e 7 (yB w)=(pC (zO (yB w))).map fun v=>{ e with pred:=v }:=by unfold xJ;simp
 rw [hr,fO hw]
 cases pC w<;>rfl
theorem zK5 (ps:List Nat) (e:En) (w:List (List UInt8)) (hw:uV w):zH (8::ps) e w=(kI w).bind fun v=>if v=[] then none else zH ps { e with eds:=v } []:=by
 have hs:uM w 8=w.length:=rfl;rw [zH,hs,if_neg (by omega),List.take_length,List.drop_length];have hr:xJ e 8 (yB w)=(kI (zO (yB w))).bind fun v=>if v=[] then none else some { e with eds:=v }:=by unfold xJ;simp
 rw [hr,fO hw]
 cases kI w with
 | none=>rfl
 | some v =>
  simp only [Option.bind_some]
  split<;>rfl
theorem zEz (ps:List Nat) (e:En) (w:List (List UInt8)) (hw:uV w):zH (5::ps) e w=(uY (w.takeWhile fun x=>decide (x≠[63]))).bind fun v=>zH ps { e with val:=v } (w.dropWhile fun x=>decide (x≠[63])):=by
 have hs:uM w 5=(w.takeWhile fun x=>decide (x≠[63])).length:=rfl;rw [zH,hs,if_neg (by have:=zC4 (w:=w);omega),zHA,zB3];have hg:uV (w.takeWhile fun x=>decide (x≠[63])):=fun y hy=>hw y ((List.takeWhile_sublist _).mem hy)
 have hr:xJ e 5 (yB (w.takeWhile fun x=>decide (x≠[63])))=(uY (zO (yB (w.takeWhile fun x=>decide (x≠[63]))))).map fun v=>{ e with val:=v }:=by unfold xJ;simp
 rw [hr,fO hg]
 cases uY (w.takeWhile fun x=>decide (x≠[63]))<;>rfl
theorem zKO (ps:List Nat) (e:En) (w:List (List UInt8)):zH (1::ps) e w=match w with
  | (64::t)::w'=>if vI t=true then zH ps { e with temp:=⟨t.toArray⟩ } w' else none
  | w=>zH ps { e with temp:=⟨#[]⟩ } w:=by
 have h0:∀w:List (List UInt8),uM w 1=0->zH (1::ps) e w=zH ps { e with temp:=⟨#[]⟩ } w:=fun w hs=>by
  rw [zH,hs,if_neg (by omega),List.take_zero,List.drop_zero,zCy,zK8,if_pos (Or.inl rfl)];rfl
 match w with
 | []=>exact h0 _ rfl
 | []::w'=>exact h0 _ rfl
 | (c::t)::w' =>
  by_cases hc:c=64
  ·subst hc;have hs:uM ((64::t)::w') 1=1:=rfl;rw [zH,hs,if_neg (by simp)];simp only [List.take_succ_cons,List.take_zero,List.drop_succ_cons,List.drop_zero,xC];have hu:sK (64::t)=t:=rfl;rw [zK8,hu]
   by_cases ht:vI t=true
   ·rw [if_pos (Or.inr ht),if_pos ht];rfl
   ·have hno:¬ ((64::t:List UInt8)=[]∨vI t=true):=fun q=>q.elim (fun q=>by cases q) ht
    rw [if_neg hno,if_neg ht];rfl
  ·have hs:uM ((c::t)::w') 1=0:=by
    show (if ((some (c::t)).bind List.head?)=some 64 then 1 else 0)=0
    rw [if_neg (by simpa using hc)]
   rw [h0 _ hs]
   split
   ·rename_i heq;cases heq;exact absurd rfl hc
   ·rfl
theorem zMl (ps:List Nat) (e:En) (w:List (List UInt8)) (hw:uV w):zH (4::ps) e w =
  if w[0]? = some [105,102] then (xX w[1]?).bind fun n=>if n=0 then none else zH ps { e with iff:=(n:Int) } (w.drop 2) else zH ps { e with iff:=0 } w:=by
 have hr:∀x,xJ e 4 x=(zCi x).map fun (n:Nat)=>{ e with iff:=(n:Int) }:=fun x=>by unfold xJ;simp
 by_cases h:w[0]? = some [105,102]
 ·rw [if_pos h]
  match w,h with
  | [x],h =>
   have hx:x=[105,102]:=by simpa using h
   subst hx;rfl
  | x::y::w',h =>
   have hx:x=[105,102]:=by simpa using h
   subst hx;have hs:uM ([105,102]::y::w') 4=2:=rfl;rw [zH,hs,if_neg (by simp)];simp only [List.take_succ_cons,List.take_zero,List.drop_succ_cons,List.drop_zero,gQ]
   have hc:zCi ([105,102]++32::y)=(xH 999999999 y).bind fun n=>if 0<n then some n else none:=by
    unfold zCi;rw [if_neg (by simp)];have hu:zNb ([105,102]++32::y)=y:=by simp [zNb,List.isPrefixOf]
    rw [hu]
   rw [hr,hc];show _=(xH 999999999 y).bind _
   cases xH 999999999 y with
   | none=>rfl
   | some n =>
    simp only [Option.bind_some]
    by_cases hn:n=0
    ·subst hn;rfl
    ·rw [if_pos (by omega),if_neg hn];rfl
 ·rw [if_neg h]
  have hs:uM w 4=0:=by
   show (if w.head? = some [105,102] then 2 else 0)=0
   rw [if_neg];rw [List.head?_eq_getElem?];exact h
  rw [zH,hs,if_neg (by omega),List.take_zero,List.drop_zero,zCy,hr];rfl
theorem zNh (ps:List Nat) (e:En):zH (2::ps) e []=none:=zET ps e []
theorem zMj (ps:List Nat) (e:En) (x:List UInt8) (w:List (List UInt8)):zH (2::ps) e (x::w)=(tJ x).bind fun k=>zH ps { e with ka:=k.1,kb:=k.2 } w:=zET ps e (x::w)
theorem zN4 (ps:List Nat) (e:En):zH (3::ps) e []=none:=zFB ps e []
theorem zMc (ps:List Nat) (e:En) (x:List UInt8) (w:List (List UInt8)):zH (3::ps) e (x::w)=if xM x=true then zH ps { e with ka:=⟨x.toArray⟩ } w else none:=zFB ps e (x::w)
theorem zN2 (ps:List Nat) (e:En):zH (9::ps) e []=none:=zFV ps e []
theorem zNC (ps:List Nat) (e:En) (x:List UInt8) (w:List (List UInt8)):zH (9::ps) e (x::w)=(xH 999999999 x).bind fun n=>zH ps { e with num:=(n:Int) } w:=zFV ps e (x::w)
theorem zDh (ps:List Nat) (e:En):zH (10::ps) e []=none:=zGA ps e []
theorem zAd (ps:List Nat) (e:En) (x:List UInt8) (w:List (List UInt8)):zH (10::ps) e (x::w)=(xH 18446744073709551615 x).bind fun n=>zH ps { e with stamp:=(n:Int) } w:=zGA ps e (x::w)
theorem zNm (ps:List Nat) (e:En):zH (6::ps) e []=none:=zEV ps e []
theorem zM8 (ps:List Nat) (e:En) (x:List UInt8) (w:List (List UInt8)):zH (6::ps) e (x::w)=if x=[63] then zH ps e w else none:=zEV ps e (x::w)
end
section
open Go.RowKit Go.Lib
def fil (o:Option En):Option En:=o.bind fun e=>if vB e=true then some e else none
theorem sI {e:En} (h:vB e=true):fil (some e)=some e:=by unfold fil;rw [Option.bind_some,if_pos h]
theorem zAF {e:En} (h:nG e->False):fil (some e)=none:=by
 unfold fil;rw [Option.bind_some,if_neg fun q=>h (xW q)]
def tC (o:Option (En × List (List UInt8))):Option En:=o.bind fun r=>if r.2=[] then some r.1 else none
theorem qL (k:Int) (hk:2<k) (w:List (List UInt8)):uP (zC k) w=yS (zC k) w:=sS _ _ fun h=>by
 exfalso
 have h':k<=2:=h;omega
theorem sH (e:En) (h:¬ 10<e.kind) (w:List (List UInt8)):yS e w=qY e w:=by unfold yS;rw [if_neg h]
theorem tB (e:En) (w:List (List UInt8)):tC (zH [] e w)=if w=[] then some e else none:=rfl
theorem bB:tC none=none:=rfl
theorem sN (e:En) (hK:yQ e.kind=false) (ps:List Nat) (w:List (List UInt8))
  (h:∀(a b:ByteArray) (w:List (List UInt8)),uV w->tR a b=true->tC (zH ps { e with ka:=a,kb:=b } w)=fil (zX { e with ka:=a,kb:=b } w)) (hw:uV w) :
  tC (zH (2::ps) e w)=fil (qY e w):=by
 cases w with
 | nil=>rw [zNh];rfl
 | cons x w =>
  rw [zMj,pR,hK]
  cases hx:tJ x with
  | none=>rfl
  | some k=>exact h k.1 k.2 w hw.tail (zFz hx)
theorem zBy (e:En) (hK:yQ e.kind=true) (ps:List Nat) (w:List (List UInt8))
  (h:∀(x:List UInt8) (w:List (List UInt8)),uV w->(if xM x=true then tC (zH ps { e with ka:=⟨x.toArray⟩ } w) else none)=fil (zX { e with ka:=⟨x.toArray⟩ } w)) (hw:uV w) :
  tC (zH (3::ps) e w)=fil (qY e w):=by
 cases w with
 | nil=>rw [zN4];rfl
 | cons x w =>
  rw [zMc,pR,hK,if_pos rfl,<-h x w hw.tail]
  split<;>rfl
theorem t6 (e:En) (hz:nG e) (hk:e.kind=6) (w:List (List UInt8)):tC (zH [] e w)=fil (zX e w):=by
 rw [tB];have ht:zX e w=if w=[] then some e else none:=by unfold zX;simp [hk]
 rw [ht]
 split
 ·rw [sI (vV hz)]
 ·rfl
theorem e6 (w:List (List UInt8)) (hw:uV w):tC (zH [2] (zC 6) w)=fil (uP (zC 6) w):=by
 rw [qL 6 (by decide),sH _ (by decide)];refine sN _ (by rfl) [] w (fun a b w hw hk=>t6 _ ?_ rfl w) hw;constructor<;>simp_all [zC,xQ,yQ,m0B,m0E,m0M,s0M]
theorem e7 (w:List (List UInt8)) (hw:uV w):tC (zH [2,9] (zC 7) w)=fil (uP (zC 7) w):=by
 rw [qL 7 (by decide),sH _ (by decide)];refine sN _ (by rfl) [9] w (fun a b w hw hk=>?_) hw
 cases w with
 | nil=>rw [zN2];simp [zX,zC,tC,fil]
 | cons y w =>
  rw [zNC]
  cases hn:xH 999999999 y with
  | none =>
   simp only [Option.bind_none,bB]
   cases w<;>simp [zX,zC,xX,hn,fil]
  | some n =>
   have hle:=sO hn;rw [Option.bind_some,tB]
   cases w with
   | nil =>
    simp [zX,zC,xX,hn]
    rw [sI];apply vV;constructor<;>simp_all [xQ,yQ,m0B,m0E,m0M,s0M]<;>omega
   | cons z w=>simp [zX,zC,fil]
theorem e9 (w:List (List UInt8)) (hw:uV w):tC (zH [2,10] (zC 9) w)=fil (uP (zC 9) w):=by
 rw [qL 9 (by decide),sH _ (by decide)];refine sN _ (by rfl) [10] w (fun a b w hw hk=>?_) hw
 cases w with
 | nil=>rw [zDh];simp [zX,zC,tC,fil]
 | cons y w =>
  rw [zAd]
  cases hn:xH 18446744073709551615 y with
  | none =>
   simp only [Option.bind_none,bB]
   cases w<;>simp [zX,zC,xY,hn,fil]
  | some n =>
   rw [Option.bind_some,tB]
   cases w with
   | nil =>
    simp [zX,zC,xY,hn]
    rw [sI];apply vV;constructor<;>simp_all [xQ,yQ,m0B,m0E,m0M,s0M]
   | cons z w=>simp [zX,zC,fil]
theorem e10 (w:List (List UInt8)) (hw:uV w):tC (zH [3,10] (zC 10) w)=fil (uP (zC 10) w):=by
 rw [qL 10 (by decide),sH _ (by decide)];refine zBy _ (by rfl) [10] w (fun x w hw=>?_) hw
 cases w with
 | nil=>rw [zDh];simp [zX,zC,tC,fil]
 | cons y w =>
  rw [zAd]
  cases hn:xH 18446744073709551615 y with
  | none =>
   simp only [Option.bind_none,bB]
   cases w<;>simp [zX,zC,xY,hn,fil]
  | some n =>
   rw [Option.bind_some,tB]
   cases w with
   | nil =>
    simp [zX,zC,xY,hn]
    by_cases ht:xM x=true
    ·rw [if_pos ht,sI];apply vV;constructor<;>simp_all [xQ,yQ,m0B,m0E,m0M,s0M]
    ·rw [if_neg ht,zAF];intro h;have:=h.key
     simp_all [xQ,yQ]
   | cons z w=>simp [zX,zC,fil]
theorem e8 (w:List (List UInt8)) (hw:uV w):tC (zH [3,7] (zC 8) w)=fil (uP (zC 8) w):=by
 rw [qL 8 (by decide),sH _ (by decide)];refine zBy _ (by rfl) [7] w (fun x w hw=>?_) hw;rw [zBR _ _ _ hw]
 cases hp:pC w with
 | none=>simp [zX,yO,zC,hp,fil,tC]
 | some p =>
  obtain ⟨h1,h2⟩:=zDa hp;rw [Option.bind_some,tB];simp [zX,yO,zC,hp]
  by_cases ht:xM x=true
  ·rw [if_pos ht,sI];apply vV;constructor<;>simp_all [xQ,yQ,m0B,m0E]
  ·rw [if_neg ht,zAF];intro h;have:=h.key
   simp_all [xQ,yQ]
theorem e11 (w:List (List UInt8)) (hw:uV w):tC (zH [10,2] (zC 11) w)=fil (uP (zC 11) w):=by
 rw [qL 11 (by decide)]
 cases w with
 | nil=>rw [zDh];simp [yS,zC,xY,tC,fil]
 | cons y w =>
  rw [zAd]
  cases hn:xH 18446744073709551615 y with
  | none=>simp [yS,zC,xY,hn,tC,fil]
  | some n =>
   have hst:yS (zC 11) (y::w)=qY { zC 11 with stamp:=(n:Int) } w:=by simp [yS,zC,xY,hn]
   rw [Option.bind_some,hst];refine sN _ (by rfl) [] w (fun a b w hw hk=>?_) hw.tail;rw [tB];simp [zX,zC]
   split
   ·rw [sI];apply vV;constructor<;>simp_all [xQ,yQ,m0B,m0E,m0M,s0M]
   ·rfl
theorem e12 (w:List (List UInt8)) (hw:uV w):tC (zH [10,3,7] (zC 12) w)=fil (uP (zC 12) w):=by
 rw [qL 12 (by decide)]
 cases w with
 | nil=>rw [zDh];simp [yS,zC,xY,tC,fil]
 | cons y w =>
  rw [zAd]
  cases hn:xH 18446744073709551615 y with
  | none=>simp [yS,zC,xY,hn,tC,fil]
  | some n =>
   have hst:yS (zC 12) (y::w)=qY { zC 12 with stamp:=(n:Int) } w:=by simp [yS,zC,xY,hn]
   rw [Option.bind_some,hst];refine zBy _ (by rfl) [7] w (fun x w hw=>?_) hw.tail;rw [zBR _ _ _ hw]
   cases hp:pC w with
   | none=>simp [zX,yO,zC,hp,fil,tC]
   | some p =>
    obtain ⟨h1,h2⟩:=zDa hp;rw [Option.bind_some,tB];simp [zX,yO,zC,hp]
    by_cases ht:xM x=true
    ·rw [if_pos ht,sI];apply vV;constructor<;>simp_all [xQ,yQ,m0B,m0E]
    ·rw [if_neg ht,zAF];intro h;have:=h.key
     simp_all [xQ,yQ]
theorem zDL (e:En) (h3:3<=e.kind) (h5:e.kind<=5) (h0:e.iff=0) (ps:List Nat) (w:List (List UInt8)) (hw:uV w)
  (h:∀(n:Nat) (w:List (List UInt8)),n<=999999999->uV w->tC (zH ps { e with iff:=(n:Int) } w)=fil (yO { e with iff:=(n:Int) } w)) :
  tC (zH (4::ps) e w)=fil (zX e w):=by
 have ht:zX e w=if w[0]? = some [105,102] then (xX w[1]?).bind fun n=>if n=0 then none else yO { e with iff:=(n:Int) } (w.drop 2) else yO e w:=by
  unfold zX;rw [if_neg (by omega),if_neg (by omega),if_neg (by omega)]
  by_cases hc:w[0]? = some [105,102]
  ·rw [if_pos ⟨h3,h5,hc⟩,if_pos hc]
  ·rw [if_neg (fun q=>hc q.2.2),if_neg hc]
 rw [zMl _ _ _ hw,ht]
 by_cases hc:w[0]? = some [105,102]
 ·rw [if_pos hc,if_pos hc]
  cases hn:xX w[1]? with
  | none=>rfl
  | some n =>
   simp only [Option.bind_some]
   by_cases hz:n=0
   ·rw [if_pos hz,if_pos hz];rfl
   ·rw [if_neg hz,if_neg hz]
    have hle:n<=999999999:=by
     unfold xX at hn
     cases hx:w[1]? with
     | none=>rw [hx] at hn;cases hn
     | some x=>rw [hx] at hn;exact sO hn
    exact h n _ hle (hw.drop 2)
 ·rw [if_neg hc,if_neg hc];have:=h 0 w (by omega) hw;have e0:{ e with iff:=((0:Nat):Int) }=e:=by cases e;simp at h0;subst h0;rfl
  rw [e0] at this;have e1:{ e with iff:=(0:Int) }=e:=by cases e;simp at h0;subst h0;rfl
  rw [e1];exact this
theorem e5 (w:List (List UInt8)) (hw:uV w):tC (zH [2,4] (zC 5) w)=fil (uP (zC 5) w):=by
 rw [qL 5 (by decide),sH _ (by decide)];refine sN _ (by rfl) [4] w (fun a b w hw hk=>zDL _ (by show (3:Int)<=5;decide) (by show (5:Int)<=5;decide) rfl [] w hw fun n w hn hw=>?_) hw;rw [tB];simp [yO,zC]
 split
 ·rw [sI];apply vV;constructor<;>simp_all [xQ,yQ,m0B,m0E,m0M,s0M]<;>omega
 ·rfl
theorem e4 (w:List (List UInt8)) (hw:uV w):tC (zH [2,4,8] (zC 4) w)=fil (uP (zC 4) w):=by
 rw [qL 4 (by decide),sH _ (by decide)];refine sN _ (by rfl) [4,8] w (fun a b w hw hk=>zDL _ (by show (3:Int)<=4;decide) (by show (4:Int)<=5;decide) rfl [8] w hw fun n w hn hw=>?_) hw;rw [zK5 _ _ _ hw]
 cases hp:kI w with
 | none=>simp [yO,zC,hp,fil,tC]
 | some p =>
  have h1:=zMZ hp;simp [yO,zC,hp]
  by_cases hz:p=[]
  ·rw [if_pos hz,zAF]
   ·rfl
   ·intro h;have:=h.eds
    simp_all
  ·rw [if_neg hz,tB,if_pos rfl,sI];apply vV;constructor<;>simp_all [xQ,yQ,m0B,m0M,s0M]<;>omega
theorem zFF (w:List (List UInt8)) (hw:uV w) (e:En) (hk:e.kind=1∨e.kind=3)
  (h:∀v,xU v=true->vB { e with val:=v }=true):tC (zH [5] e w)=fil (yO e w):=by
 rw [zEz _ _ _ hw];have hr:yO e w=(uY w).map fun v=>{ e with val:=v }:=by unfold yO;rw [if_pos hk]
 rw [hr]
 by_cases hm:[63]∈w
 ·rw [zNK hm];obtain ⟨r,hd⟩:=qM hm;rw [hd]
  cases uY (w.takeWhile fun x=>decide (x≠[63]))<;>rfl
 ·rw [bO hm,fH hm]
  cases hv:uY w with
  | none=>rfl
  | some v =>
   rw [Option.bind_some,tB,if_pos rfl,Option.map_some,sI (h v (zID hv))]
theorem e3 (w:List (List UInt8)) (hw:uV w):tC (zH [2,4,5] (zC 3) w)=fil (uP (zC 3) w):=by
 rw [qL 3 (by decide),sH _ (by decide)];refine sN _ (by rfl) [4,5] w (fun a b w hw hk=>zDL _ (by show (3:Int)<=3;decide) (by show (3:Int)<=5;decide) rfl [5] w hw fun n w hn hw=>zFF w hw _ (Or.inr rfl) fun v hv=>?_) hw;apply vV;constructor<;>simp_all [zC,xQ,yQ,m0E,m0M,s0M]<;>omega
theorem zEu (k:Int) (h2:k<=2) (ps:List Nat) (w:List (List UInt8)) (hw:uV w)
  (h:∀(t:ByteArray) (w:List (List UInt8)),uV w->(if t=⟨#[]⟩∨vI t.data.toList=true then tC (zH (2::ps) { zC k with temp:=t } w) else none)=fil (qY { zC k with temp:=t } w)) :
  tC (zH (1::ps.cons 2) (zC k) w)=fil (uP (zC k) w):=by
 have hlo:∀e:En,e.kind=k->∀w,yS e w=qY e w:=fun e he w=>sH e (by rw [he];omega) w
 rw [zKO];have h0:=h ⟨#[]⟩ w hw;rw [if_pos (Or.inl rfl)] at h0
 match w,hw,h0 with
 | [],hw,h0=>rw [sS _ _ (fun _ t w' q=>by cases q),hlo _ rfl];exact h0
 | []::w',hw,h0=>rw [sS _ _ (fun _ t w'' q=>by cases q),hlo _ rfl];exact h0
 | (c::t)::w',hw,h0 =>
  by_cases hc:c=64
  ·subst hc
   have ht:uP (zC k) ((64::t)::w')=if t=[] then none else qY { zC k with temp:=⟨t.toArray⟩ } w':=by
    show (if (zC k).kind<=2 then if t=[] then none else yS { zC k with temp:=⟨t.toArray⟩ } w' else yS (zC k) ((64::t)::w'))=_
    rw [if_pos (show (zC k).kind<=2 from h2),hlo _ rfl]
   rw [ht]
   by_cases hz:t=[]
   ·subst hz;rfl
   ·rw [if_neg hz];have h1:=h ⟨t.toArray⟩ w' hw.tail;rw [<-h1];have hne:¬ (⟨t.toArray⟩:ByteArray)=⟨#[]⟩:=fun q=>hz (by have:=congrArg (fun b:ByteArray=>b.data.toList) q;simpa using this)
    by_cases hb:vI t=true
    ·simp [hb]
    ·simp [hb,hne];rfl
  ·rw [sS _ _ (fun _ t' w'' q=>by injection q with q1;injection q1 with q1;exact hc q1),hlo _ rfl]
   split
   ·rename_i heq;injection heq with q1;injection q1 with q1;exact absurd q1 hc
   ·exact h0
theorem e1 (w:List (List UInt8)) (hw:uV w):tC (zH [1,2,5] (zC 1) w)=fil (uP (zC 1) w):=by
 refine zEu 1 (by decide) [5] w hw fun t w hw=>?_
 by_cases ht:t=⟨#[]⟩∨vI t.data.toList=true
 ·rw [if_pos ht];refine sN _ (by rfl) [5] w (fun a b w hw hk=>?_) hw;have htl:∀e:En,e.kind=1->zX e w=yO e w:=fun e he=>by unfold zX;simp [he]
  rw [htl _ rfl];refine zFF w hw _ (Or.inl rfl) fun v hv=>?_
  apply vV
  constructor<;>simp_all [zC,xQ,yQ,m0E,m0M,s0M]
 ·rw [if_neg ht]
  cases w with
  | nil=>rfl
  | cons x w =>
   rw [pR]
   cases hx:tJ x with
   | none=>rfl
   | some k =>
    have htl:∀e:En,e.kind=1->zX e w=yO e w:=fun e he=>by unfold zX;simp [he]
    show none=fil (zX { zC 1 with temp:=t,ka:=k.1,kb:=k.2 } w)
    rw [htl _ rfl];have hrs:∀e:En,e.kind=1->yO e w=(uY w).map fun v=>{ e with val:=v }:=fun e he=>by unfold yO;rw [if_pos (Or.inl he)]
    rw [hrs _ rfl]
    cases hv:uY w with
    | none=>rfl
    | some v =>
     rw [Option.map_some,zAF];intro h;have:=h.tmp
     simp_all
theorem e2 (w:List (List UInt8)) (hw:uV w):tC (zH [1,2,5,6,7] (zC 2) w)=fil (uP (zC 2) w):=by
 refine zEu 2 (by decide) [5,6,7] w hw fun t w hw=>?_
 have hrest:∀(e:En) (w:List (List UInt8)),e.kind=2->zX e w=if [63]∈w then (uY (w.takeWhile fun x=>decide (x≠[63]))).bind fun v=>(pC ((w.dropWhile fun x=>decide (x≠[63])).drop 1)).map fun p=>{ e with val:=v,pred:=p } else none:=fun e w he=>by
  unfold zX yO;simp [he]
 by_cases ht:t=⟨#[]⟩∨vI t.data.toList=true
 ·rw [if_pos ht];refine sN _ (by rfl) [5,6,7] w (fun a b w hw hk=>?_) hw;rw [hrest _ w rfl,zEz _ _ _ hw]
  by_cases hm:[63]∈w
  ·rw [if_pos hm];obtain ⟨r,hd⟩:=qM hm;have hgr:uV r:=fun y hy=>hw y ((List.dropWhile_sublist (fun x=>decide (x≠[63]))).mem (by rw [hd];exact List.mem_cons_of_mem _ hy))
   rw [hd]
   cases hv:uY (w.takeWhile fun x=>decide (x≠[63])) with
   | none=>rfl
   | some v =>
    have h1:=zID hv;simp only [Option.bind_some,List.drop_succ_cons,List.drop_zero];rw [zM8,if_pos rfl,zBR _ _ _ hgr]
    cases hp:pC r with
    | none=>rfl
    | some p =>
     obtain ⟨h2,h3⟩:=zDa hp;rw [Option.bind_some,tB,if_pos rfl,Option.map_some,sI];apply vV;constructor<;>simp_all [zC,xQ,yQ,m0E]
  ·rw [if_neg hm,fH hm]
   cases uY (w.takeWhile fun x=>decide (x≠[63])) with
   | none=>rfl
   | some v=>simp only [Option.bind_some];rw [zNm];rfl
 ·rw [if_neg ht]
  cases w with
  | nil=>rfl
  | cons x w =>
   rw [pR]
   cases hx:tJ x with
   | none=>rfl
   | some k =>
    show none=fil (zX { zC 2 with temp:=t,ka:=k.1,kb:=k.2 } w)
    rw [hrest _ w rfl]
    split
    ·cases hv:uY (w.takeWhile fun x=>decide (x≠[63])) with
     | none=>rfl
     | some v =>
      rw [Option.bind_some]
      cases hp:pC ((w.dropWhile fun x=>decide (x≠[63])).drop 1) with
      | none=>rfl
      | some p =>
       rw [Option.map_some,zAF];intro h;have:=h.tmp
       simp_all
    ·rfl
theorem zIz (w:List (List UInt8)) (hw:uV w):gE w=fil (xZ w):=by
 cases w with
 | nil=>rfl
 | cons x w =>
  rw [qQ];show (if yX x=0 then none else tC (zH (zN (yX x)) (zC (yX x)) w))=_
  by_cases h0:yX x=0
  ·rw [if_pos h0,if_pos h0];rfl
  ·rw [if_neg h0,if_neg h0];have h12:=cG x;have hg:=hw.tail
   generalize yX x=k at *
   have hk:k=1∨k=2∨k=3∨k=4∨k=5∨k=6∨k=7∨k=8∨k=9∨k=10∨k=11∨k=12:=by omega
   rcases hk with rfl|rfl|rfl|rfl|rfl|rfl|rfl|rfl|rfl|rfl|rfl|rfl
   ·exact e1 w hg
   ·exact e2 w hg
   ·exact e3 w hg
   ·exact e4 w hg
   ·exact e5 w hg
   ·exact e6 w hg
   ·exact e7 w hg
   ·exact e8 w hg
   ·exact e9 w hg
   ·exact e10 w hg
   ·exact e11 w hg
   ·exact e12 w hg
end
section
open Go.RowKit Go.Lib
def okw (x:List UInt8):Prop:=x≠[]/\x≠[59]
theorem zK2 {most n:Nat} {x:List UInt8} (h:xH most x=some n):okw x:=by
 have e:=gH h;constructor
 ·rintro rfl;exact nW n e
 ·rintro rfl;have:=dF n 59 (by rw [e];simp)
  revert this;decide
theorem zNo {x:List UInt8} {k:ByteArray × ByteArray} (h:tJ x=some k):okw x:=by
 constructor
 ·rintro rfl;have hz:tJ []=none:=by kernel_rfl
  rw [hz] at h;cases h
 ·rintro rfl;have hz:tJ [59]=none:=by kernel_rfl
  rw [hz] at h;cases h
theorem zM0 {x:List UInt8} (h:xM x=true):okw x:=by
 constructor
 ·rintro rfl;cases h
 ·rintro rfl;revert h;decide
theorem zML {x:List UInt8} (h:yX x≠0):okw x:=by
 constructor
 ·rintro rfl;exact h rfl
 ·rintro rfl;exact h (by decide)
theorem zCn:∀{w:List (List UInt8)} {fs:List Fld},zV w=some fs->∀x∈w,okw x
 | [],_,_=>fun x hx=>by cases hx
 | l::r,fs,h=>fun x hx=>by
  rw [zV] at h
  cases ho:vM l with
  | none=>rw [ho] at h;cases h
  | some nt =>
   obtain ⟨n,t⟩:=nt;rw [ho] at h
   cases hr:zV r with
   | none=>rw [hr] at h;cases h
   | some gs =>
    rcases List.mem_cons.1 hx with rfl|hx
    ·constructor
     ·rintro rfl;have hz:vM []=none:=by kernel_rfl
      rw [hz] at ho;cases ho
     ·rintro rfl;have hz:vM [59]=none:=by kernel_rfl
      rw [hz] at ho;cases ho
    ·exact zCn hr x hx
theorem zEt:∀{w:List (List UInt8)} {fs:List Tm},yA w=some fs->∀x∈w,okw x
 | [],_,_=>fun x hx=>by cases hx
 | l::r,fs,h=>fun x hx=>by
  rw [yA] at h
  cases ho:uL l with
  | none=>rw [ho] at h;cases h
  | some nt =>
   rw [ho] at h
   cases hr:yA r with
   | none=>rw [hr] at h;cases h
   | some gs =>
    rcases List.mem_cons.1 hx with rfl|hx
    ·constructor
     ·rintro rfl;have hz:uL []=none:=by kernel_rfl
      rw [hz] at ho;cases ho
     ·rintro rfl;have hz:uL [59]=none:=by kernel_rfl
      rw [hz] at ho;cases ho
    ·exact zEt hr x hx
theorem zEv:∀{w:List (List UInt8)} {fs:List Ed},yC w=some fs->∀x∈w,okw x
 | [],_,_=>fun x hx=>by cases hx
 | l::r,fs,h=>fun x hx=>by
  rw [yC] at h
  cases ho:vK l with
  | none=>rw [ho] at h;cases h
  | some nt =>
   rw [ho] at h
   cases hr:yC r with
   | none=>rw [hr] at h;cases h
   | some gs =>
    rcases List.mem_cons.1 hx with rfl|hx
    ·constructor
     ·rintro rfl;have hz:vK []=none:=by kernel_rfl
      rw [hz] at ho;cases ho
     ·rintro rfl;have hz:vK [59]=none:=by kernel_rfl
      rw [hz] at ho;cases ho
    ·exact zEv hr x hx
theorem zKK {w:List (List UInt8)} {v:List Fld} (h:uY w=some v):∀x∈w,okw x:=by
 unfold uY at h
 cases hf:zV w with
 | none=>rw [hf] at h;cases h
 | some fs=>exact zCn hf
theorem zKJ {w:List (List UInt8)} {v:List Tm} (h:pC w=some v):∀x∈w,okw x:=by
 unfold pC at h
 cases hf:yA w with
 | none=>rw [hf] at h;exact absurd h (by simp [zBN])
 | some fs=>exact zEt hf
theorem zN6 {w:List (List UInt8)} {v:List Ed} (h:kI w=some v):∀x∈w,okw x:=by
 unfold kI at h
 cases hf:yC w with
 | none=>rw [hf] at h;exact absurd h (by simp [zBh])
 | some fs=>exact zEv hf
structure zNO (e f:En):Prop where
 kind:f.kind=e.kind
 ka:f.ka=e.ka
 kb:f.kb=e.kb
theorem zIZ {e f:En} {w:List (List UInt8)} (h:yO e w=some f):(∀x∈w,okw x)/\zNO e f:=by
 unfold yO at h
 split at h
 ·cases hv:uY w with
  | none=>rw [hv] at h;cases h
  | some v=>rw [hv] at h;cases h;exact ⟨zKK hv,rfl,rfl,rfl⟩
 ·split at h
  ·split at h
   ·rename_i hm
    cases hv:uY (w.takeWhile fun x=>decide (x≠[63])) with
    | none=>rw [hv] at h;cases h
    | some v =>
     rw [hv,Option.bind_some] at h
     cases hp:pC ((w.dropWhile fun x=>decide (x≠[63])).drop 1) with
     | none=>rw [hp] at h;cases h
     | some p =>
      rw [hp] at h
      cases h;refine ⟨fun x hx=>?_,rfl,rfl,rfl⟩;rw [<-List.takeWhile_append_dropWhile (p:=fun x=>decide (x≠[63])) (l:=w)] at hx
      rcases List.mem_append.1 hx with hx|hx
      ·exact zKK hv x hx
      ·obtain ⟨r,hd⟩:=qM hm;rw [hd] at hx hp
       rcases List.mem_cons.1 hx with rfl|hx
       ·exact ⟨by decide,by decide⟩
       ·exact zKJ hp x hx
   ·cases h
  ·split at h
   ·cases hv:kI w with
    | none=>rw [hv] at h;cases h
    | some v=>rw [hv] at h;cases h;exact ⟨zN6 hv,rfl,rfl,rfl⟩
   ·split at h
    ·split at h
     ·rename_i h0
      cases h;subst h0;exact ⟨fun x hx=>(by cases hx),rfl,rfl,rfl⟩
     ·cases h
    ·cases hv:pC w with
     | none=>rw [hv] at h;cases h
     | some v=>rw [hv] at h;cases h;exact ⟨zKJ hv,rfl,rfl,rfl⟩
theorem zE9 {x:Option (List UInt8)} {n:Nat} (h:xX x=some n):∃y,x=some y/\okw y:=by
 unfold xX at h
 cases x with
 | none=>cases h
 | some y=>exact ⟨y,rfl,zK2 h⟩
theorem zDB {x:Option (List UInt8)} {n:Nat} (h:xY x=some n):∃y,x=some y/\okw y:=by
 unfold xY at h
 cases x with
 | none=>cases h
 | some y=>exact ⟨y,rfl,zK2 h⟩
theorem zHu {e f:En} {w:List (List UInt8)} (h:zX e w=some f):(∀x∈w,okw x)/\zNO e f:=by
 unfold zX at h
 split at h
 ·split at h
  ·rename_i hl
   match w,hl with
   | [y],_ =>
    cases hn:xX ([y]:List (List UInt8))[0]? with
    | none=>rw [hn] at h;cases h
    | some n =>
     rw [hn] at h
     cases h;obtain ⟨z,hz,ho⟩:=zE9 hn;have:y=z:=by simpa using hz
     subst this;exact ⟨fun x hx=>by rw [List.mem_singleton] at hx;subst hx;exact ho,rfl,rfl,rfl⟩
  ·cases h
 ·split at h
  ·split at h
   ·rename_i hl
    match w,hl with
    | [y],_ =>
     cases hn:xY ([y]:List (List UInt8))[0]? with
     | none=>rw [hn] at h;cases h
     | some n =>
      rw [hn] at h
      cases h;obtain ⟨z,hz,ho⟩:=zDB hn;have:y=z:=by simpa using hz
      subst this;exact ⟨fun x hx=>by rw [List.mem_singleton] at hx;subst hx;exact ho,rfl,rfl,rfl⟩
   ·cases h
  ·split at h
   ·split at h
    ·rename_i h0
     cases h;subst h0;exact ⟨fun x hx=>(by cases hx),rfl,rfl,rfl⟩
    ·cases h
   ·split at h
    ·rename_i hc
     cases hn:xX w[1]? with
     | none=>rw [hn] at h;cases h
     | some n =>
      rw [hn,Option.bind_some] at h
      split at h
      ·cases h
      ·obtain ⟨ho,hk⟩:=zIZ h;obtain ⟨y,hy,hyo⟩:=zE9 hn;refine ⟨fun x hx=>?_,hk.1,hk.2,hk.3⟩
       match w,hc,hy with
       | a::b::r,hc,hy =>
        have ha:a=[105,102]:=by simpa using hc.2.2
        have hb:b=y:=by simpa using hy
        subst ha hb
        rcases List.mem_cons.1 hx with rfl|hx
        ·exact ⟨by decide,by decide⟩
        ·rcases List.mem_cons.1 hx with rfl|hx
         ·exact hyo
         ·exact ho x hx
    ·exact zIZ h
theorem zHx {e f:En} {w:List (List UInt8)} (h:qY e w=some f) (hm:nG f):∀x∈w,okw x:=by
 cases w with
 | nil=>cases h
 | cons x w =>
  rw [pR] at h
  split at h
  ·rename_i ht
   obtain ⟨h1,h2⟩:=zHu h;intro y hy
   rcases List.mem_cons.1 hy with rfl|hy
   ·have hk:=hm.key;unfold xQ at hk;rw [h2.kind] at hk;have ht':yQ e.kind=true:=ht;rw [if_pos ht',h2.ka] at hk;simp only [Bool.and_eq_true] at hk;exact zM0 hk.2
   ·exact h1 y hy
  ·cases hk:tJ x with
   | none=>rw [hk] at h;cases h
   | some k =>
    rw [hk,Option.bind_some] at h;obtain ⟨h1,_⟩:=zHu h;intro y hy
    rcases List.mem_cons.1 hy with rfl|hy
    ·exact zNo hk
    ·exact h1 y hy
theorem pT {e f:En} {w:List (List UInt8)} (h:yS e w=some f) (hm:nG f):∀x∈w,okw x:=by
 unfold yS at h
 split at h
 ·cases hn:xY w[0]? with
  | none=>rw [hn] at h;cases h
  | some n =>
   rw [hn,Option.bind_some] at h;obtain ⟨y,hy,ho⟩:=zDB hn
   cases w with
   | nil=>cases hy
   | cons a w =>
    have ha:a=y:=by simpa using hy
    subst ha;intro x hx
    rcases List.mem_cons.1 hx with rfl|hx
    ·exact ho
    ·exact zHx h hm x hx
 ·exact zHx h hm
theorem zE8 {w:List (List UInt8)} {f:En} (h:fil (xZ w)=some f):∀x∈w,okw x:=by
 cases w with
 | nil=>intro x hx;cases hx
 | cons a w =>
  cases hr:xZ (a::w) with
  | none=>rw [hr] at h;cases h
  | some g =>
   have hm:nG g:=by
    rw [hr] at h;unfold fil at h;rw [Option.bind_some] at h
    split at h
    ·rename_i hq;exact xW hq
    ·cases h
   rw [qQ] at hr
   split at hr
   ·cases hr
   ·rename_i hk
    intro x hx
    rcases List.mem_cons.1 hx with rfl|hx
    ·exact zML hk
    ·match w,hr,hx with
     | (64::t)::w',hr,hx =>
      by_cases h2:(zC (yX a)).kind<=2
      ·have he:uP (zC (yX a)) ((64::t)::w')=if t=[] then none else yS { zC (yX a) with temp:=⟨t.toArray⟩ } w':=by
        show (if (zC (yX a)).kind<=2 then if t=[] then none else yS { zC (yX a) with temp:=⟨t.toArray⟩ } w' else _)=_
        rw [if_pos h2]
       rw [he] at hr
       split at hr
       ·cases hr
       ·rcases List.mem_cons.1 hx with rfl|hx
        ·exact ⟨by simp,by simp⟩
        ·exact pT hr hm x hx
      ·rw [sS _ _ (fun q=>absurd q h2)] at hr;exact pT hr hm x hx
     | [],hr,hx=>cases hx
     | []::w',hr,hx =>
      rw [sS _ _ (fun _ t w'' q=>by cases q)] at hr;exact pT hr hm x hx
     | (c::t)::w',hr,hx =>
      by_cases hc:c=64
      ·subst hc
       by_cases h2:(zC (yX a)).kind<=2
       ·have he:uP (zC (yX a)) ((64::t)::w')=if t=[] then none else yS { zC (yX a) with temp:=⟨t.toArray⟩ } w':=by
         show (if (zC (yX a)).kind<=2 then if t=[] then none else yS { zC (yX a) with temp:=⟨t.toArray⟩ } w' else _)=_
         rw [if_pos h2]
        rw [he] at hr
        split at hr
        ·cases hr
        ·rcases List.mem_cons.1 hx with rfl|hx
         ·exact ⟨by simp,by simp⟩
         ·exact pT hr hm x hx
       ·rw [sS _ _ (fun q=>absurd q h2)] at hr;exact pT hr hm x hx
      ·rw [sS _ _ (fun _ t' w'' q=>by injection q with q1;injection q1 with q1;exact hc q1)] at hr;exact pT hr hm x hx
end
section
open Go.RowKit Go.Lib
theorem dJ (a c:List UInt8):zG (a++32::c)=zG a++zG c:=by
 induction h:a.length using Nat.strongRecOn generalizing a with
 | _ k ih =>
  subst h
  rcases vL a 32 with ⟨hn,hnot⟩|⟨i,hi,hl,hat,hbef⟩
  ·have h1:Lib.indexByte (a++32::c) 32=(a.length:Int):=zFU _ _ _ (by simpa using hnot);rw [wO h1,wG hn,List.take_left,<-List.drop_drop,List.drop_left];rfl
  ·have h1:Lib.indexByte (a++32::c) 32=(i:Int):=by
    have hs:=zBI a 32 i hl hat
    have e:a++32::c=a.take i++32::(a.drop (i+1)++32::c):=by
     conv=>lhs;rw [hs]
     simp
    rw [e,zFU _ _ _ hbef,List.length_take]
    congr 1;omega
   rw [wO h1,wO hi,List.take_append_of_le_length (by omega),List.drop_append_of_le_length (by omega),ih _ (by rw [List.length_drop];omega) _ rfl];rfl
theorem uT (x:List UInt8) {w:List (List UInt8)} (h:w≠[]):yB (x::w)=x++32::yB w:=by
 cases w with
 | nil=>exact absurd rfl h
 | cons y w=>simp [yB,Lib.join,List.intercalate]
theorem uE (a:List (List UInt8)) {b:List (List UInt8)} (ha:a≠[]) (hb:b≠[]):yB (a++b)=yB a++32::yB b:=by
 induction a with
 | nil=>exact absurd rfl ha
 | cons x a ih =>
  by_cases h:a=[]
  ·subst h;rw [List.cons_append,List.nil_append,uT x hb,xC]
  ·rw [List.cons_append,uT x (by simp [h]),ih h,uT x h];simp
theorem zCm (l:List UInt8):zG l≠[]:=fun q=>by have:=zB5 l;rw [q] at this;simp at this
theorem kM:∀(k:Nat) (l:List UInt8),l.length<=k->yB (zG l)=l
 | k,l,hk=>by
  rcases vL l 32 with ⟨hn,_⟩|⟨i,hi,hl,hat,_⟩
  ·rw [wG hn,xC]
  ·rw [wO hi,uT _ (zCm _)]
   cases k with
   | zero=>omega
   | succ k =>
    rw [kM k _ (by rw [List.length_drop];omega)];exact (zBI l 32 i hl hat).symm
theorem kZ:∀(k:Nat) (l:List UInt8),l.length<=k->∀x∈zG l,(32:UInt8) ∉ x
 | k,l,hk=>by
  rcases vL l 32 with ⟨hn,hno⟩|⟨i,hi,hl,hat,hbef⟩
  ·rw [wG hn];intro x hx;rw [List.mem_singleton] at hx;subst hx;exact hno
  ·rw [wO hi];intro x hx
   rcases List.mem_cons.1 hx with rfl|hx
   ·exact hbef
   ·cases k with
    | zero=>omega
    | succ k=>exact kZ k _ (by rw [List.length_drop];omega) x hx
theorem zGd {l:List UInt8} (h:[] ∉ zG l):uV (zG l):=fun x hx=>⟨fun q=>h (by rw [<-q];exact hx),kZ _ l (Nat.le_refl _) x hx⟩
theorem zBV (l:List UInt8):kQ l=fil (xZ (zG l)):=by
 unfold kQ
 by_cases h:[]∈zG l
 ·rw [if_pos h]
  cases hf:fil (xZ (zG l)) with
  | none=>rfl
  | some f=>exact absurd rfl (zE8 hf [] h).1
 ·rw [if_neg h,zIz _ (zGd h)]
theorem zCF {l:List UInt8} (h:[59]∈zG l):kQ l=none:=by
 rw [zBV]
 cases hf:fil (xZ (zG l)) with
 | none=>rfl
 | some f=>exact absurd rfl (zE8 hf [59] h).2
def qT:List (List (List UInt8))->Option (List En)
 | []=>some []
 | c::cs=>(fil (xZ c)).bind fun e=>(qT cs).map (e :: ·)
theorem sP:∀{cs:List (List (List UInt8))},[]∈cs->qT cs=none
 | [],h=>by cases h
 | c::cs,h=>by
  rw [qT]
  rcases List.mem_cons.1 h with h|h
  ·subst h;rfl
  ·rw [sP h]
   cases fil (xZ c)<;>rfl
theorem zKg:∀w:List (List UInt8),zW w≠[]
 | []=>by simp [zW]
 | x::w=>by
  rw [zW]
  split
  ·simp
  ·split<;>simp
theorem zBr (w:List (List UInt8)):[]∈zW ([59]::w):=by rw [zW,if_pos rfl];simp
theorem zBL {w:List (List UInt8)} (h:[]∈(zW w).tail):∀p:List (List UInt8),[]∈(zW (p++w)).tail
 | []=>h
 | x::p=>by
  have ih:=zBL h p;rw [List.cons_append,zW]
  split
  ·exact List.mem_of_mem_tail ih
  ·split
   ·rename_i hc;exact absurd hc (zKg _)
   ·rename_i c cs hc
    rw [hc] at ih;exact ih
theorem zKv (p:List (List UInt8)):[]∈zW (p++[[59]]):=List.mem_of_mem_tail (zBL (by decide) p)
theorem zMY (p q:List (List UInt8)):[]∈zW (p++[59]::[59]::q):=List.mem_of_mem_tail (zBL (by
 rw [zW,if_pos rfl];exact zBr q) p)
theorem zCf {a:List UInt8} (h:[59]∈zG a) (ho:∀j,j+3<=a.length->Lib.occAt a jX j=false):(∃r,zG a=[59]::r)∨∃r,zG a=r++[[59]]:=by
 obtain ⟨p,q,hpq⟩:=List.append_of_mem h
 by_cases hp:p=[]
 ·subst hp;exact .inl ⟨q,hpq⟩
 ·by_cases hq:q=[]
  ·subst hq;exact .inr ⟨p,hpq⟩
  ·exfalso
   have hj:=kM _ a (Nat.le_refl _);rw [hpq,uE p hp (by simp),uT _ hq] at hj;have hlen:=congrArg List.length hj;simp only [List.length_append,List.length_cons,List.length_nil] at hlen;have hno:=ho (yB p).length (by omega)
   have hyes:Lib.occAt a jX (yB p).length=true:=by
    unfold Lib.occAt;rw [<-hj,List.drop_left];rfl
   rw [hyes] at hno;cases hno
theorem zFd:∀(k:Nat) (l:List UInt8),l.length<=k->xV (wY l)=qT (zW (zG l))
 | k,l,hk=>by
  rcases Lib.index_spec l jX with ⟨hn,hno⟩|⟨i,hi,hil,hocc,hbef⟩
  ·rw [bT hn]
   by_cases hm:[59]∈zG l
   ·have h1:xV [l]=none:=by simp only [xV];rw [zCF hm];rfl
    rw [h1]
    rcases zCf hm (fun j hj=>hno j (by omega)) with ⟨r,hr⟩|⟨r,hr⟩
    ·rw [hr,sP (zBr r)]
    ·rw [hr,sP (zKv r)]
   ·rw [kE _ (fun x hx q=>hm (by rw [<-q];exact hx))];simp only [xV,qT];rw [zBV]
  ·have hroom:i+3<=l.length:=by
    have:=Lib.index_room l jX (by rw [hi];omega);rw [hi] at this;have e:jX.length=3:=rfl;omega
   have hl:l=l.take i++32::([59]++32::l.drop (i+3)):=by
    have h1:jX <+: l.drop i:=by
     unfold Lib.occAt at hocc;exact List.isPrefixOf_iff_prefix.1 hocc
    obtain ⟨t,ht⟩:=h1
    have h2:l.drop (i+3)=t:=by
     rw [<-List.drop_drop,<-ht];rfl
    rw [h2]
    calc l=l.take i++l.drop i:=(List.take_append_drop i l).symm
     _=_:=by rw [<-ht];rfl
   have hs:zG l=zG (l.take i)++[59]::zG (l.drop (i+3)):=by
    conv=>lhs;rw [hl]
    rw [dJ,dJ];have e:zG ([59]:List UInt8)=[[59]]:=wG (by decide);rw [e];rfl
   rw [fP hi,hs]
   cases k with
   | zero=>omega
   | succ k =>
    have ih:=zFd k (l.drop (i+3)) (by rw [List.length_drop];omega)
    by_cases hm:[59]∈zG (l.take i)
    ·have h1:xV (l.take i::wY (l.drop (i+3)))=none:=by simp only [xV];rw [zCF hm];rfl
     rw [h1]
     have hoc:∀j,j+3<=(l.take i).length->Lib.occAt (l.take i) jX j=false:=fun j hj=>by
      rw [List.length_take] at hj
      cases hq:Lib.occAt (l.take i) jX j with
      | false=>rfl
      | true =>
       exfalso
       have h2:Lib.occAt l jX j=true:=by
        unfold Lib.occAt at hq ⊢;rw [List.isPrefixOf_iff_prefix] at hq ⊢;refine hq.trans ?_;rw [List.drop_take];exact List.take_prefix _ _
       have h3:=hbef j (by omega);rw [h2] at h3;cases h3
     rcases zCf hm hoc with ⟨r,hr⟩|⟨r,hr⟩
     ·rw [hr,List.cons_append,sP (zBr _)]
     ·rw [hr,List.append_assoc];exact (sP (zMY r _)).symm
    ·rw [jQ _ _ (fun x hx q=>hm (by rw [<-q];exact hx))];simp only [xV,qT];rw [zBV,ih]
theorem zAX:∀cs:List (List (List UInt8)),qT cs=(zS cs).bind fun es=>if es.all vB=true then some es else none
 | []=>rfl
 | c::cs=>by
  rw [qT,zS,zAX cs]
  cases xZ c with
  | none=>rfl
  | some e =>
   simp only [fil,Option.bind_some]
   by_cases hm:vB e=true
   ·rw [if_pos hm]
    cases zS cs with
    | none=>rfl
    | some es =>
     simp only [Option.bind_some,Option.map_some,List.all_cons,hm,Bool.true_and]
     split<;>rfl
   ·rw [if_neg hm]
    cases zS cs with
    | none=>rfl
    | some es=>simp [hm]
theorem pL:∀{cs:List (List (List UInt8))} {es:List En},zS cs=some es->es.length=cs.length
 | [],es,h=>by cases h;rfl
 | c::cs,es,h=>by
  rw [zS] at h
  cases he:xZ c with
  | none=>rw [he] at h;cases h
  | some e =>
   rw [he,Option.bind_some] at h
   cases hr:zS cs with
   | none=>rw [hr] at h;cases h
   | some gs=>rw [hr] at h;cases h;simp [pL hr]
theorem zGH (l:List UInt8):opP l=(zS (zW (zG l))).bind fun es=>if uD es=true then some es else none:=by
 unfold opP;rw [zFd _ l (Nat.le_refl _),zAX]
 cases hr:zS (zW (zG l)) with
 | none=>rfl
 | some es =>
  have h1:=pL hr
  have h2:0<es.length:=by
   rw [h1];exact List.length_pos_iff.2 (zKg _)
  simp only [Option.bind_some];unfold uD;rw [decide_eq_true h2,Bool.true_and]
  by_cases ha:es.all vB=true
  ·rw [if_pos ha,ha,Bool.and_true,Option.bind_some]
   by_cases hl:es.length<=16
   ·rw [if_pos hl,if_pos (decide_eq_true hl)]
   ·rw [if_neg hl,if_neg (by simpa using hl)]
  ·rw [if_neg ha,if_neg (by simp [ha])];rfl
theorem zHG (l:List UInt8):opR l=zAI (zO l):=by
 unfold opR
 by_cases h0:l=[]
 ·subst h0;have e:zG ([]:List UInt8)=[[]]:=wG rfl;have e2:trimPrefix ([]:List UInt8) jI=[]:=by decide
  rw [e2,zGH,e];rfl
 have hw:zO l=zG l:=by unfold zO;rw [if_neg h0]
 rw [hw];unfold zAI
 by_cases hp:hasPrefix l jI=true
 ·obtain ⟨t,ht⟩:∃t,jI++t=l:=List.isPrefixOf_iff_prefix.1 hp
  have htr:trimPrefix l jI=t:=by
   unfold trimPrefix;rw [if_pos hp,<-ht,List.drop_left]
  have hsl:zG l=sG::zG t:=by
   have e:l=sG++32::t:=by rw [<-ht];rfl
   rw [e,dJ];have e2:zG sG=[sG]:=wG (by decide);rw [e2];rfl
  rw [htr,hp,hsl,zGH];simp only [List.head?_cons,decide_true,if_true,List.drop_succ_cons,List.drop_zero]
  cases zS (zW (zG t)) with
  | none=>rfl
  | some es =>
   simp only [Option.bind_some]
   split<;>rfl
 ·have hpf:hasPrefix l jI=false:=by simpa using hp
  have htr:trimPrefix l jI=l:=by unfold trimPrefix;rw [if_neg hp]
  rw [htr,hpf,zGH]
  by_cases hh:(zG l).head? = some sG
  ·have hone:zG l=[sG]:=by
    cases hs:zG l with
    | nil=>exact absurd hs (zCm l)
    | cons x r =>
     rw [hs] at hh;have hx:x=sG:=by simpa using hh
     subst hx
     by_cases hr:r=[]
     ·rw [hr]
     ·exfalso
      have hj:=kM _ l (Nat.le_refl _);rw [hs,uT _ hr] at hj;apply hp;unfold hasPrefix;rw [List.isPrefixOf_iff_prefix];exact ⟨yB r,by rw [<-hj];rfl⟩
   rw [hone]
   decide
  ·simp only [hh,decide_false,Bool.false_eq_true,if_false]
   cases zS (zW (zG l)) with
   | none=>rfl
   | some es =>
    simp only [Option.bind_some]
    split<;>rfl
end
section
open Go.RowKit Go.Lib
theorem jU:∀(a b:List (List (List UInt8))),zS (a++b)=(zS a).bind fun x=>(zS b).map (x ++ ·)
 | [],b=>by
  show zS b=(some []).bind _
  rw [Option.bind_some]
  cases zS b<;>simp
 | c::a,b=>by
  show (xZ c).bind (fun e=>(zS (a++b)).map (e :: ·))=((xZ c).bind fun e=>(zS a).map (e :: ·)).bind _
  rw [jU a b]
  cases xZ c with
  | none=>rfl
  | some e =>
   rw [Option.bind_some,Option.bind_some]
   cases zS a with
   | none=>rfl
   | some x =>
    rw [Option.bind_some,Option.map_some,Option.bind_some]
    cases zS b<;>simp
def zAu (o:Option (List En)):Option (List En):=o.bind fun l=>if uD l=true then some l else none
theorem zJq (ls:List (List UInt8)) (once:Bool) (us:List (List UInt8)) (h1:decide (ls.head? = some sG)=once) (h2:us=if once=true then ls.drop 1 else ls):zAI ls=(zAu (zS (zW us))).map fun l=>(once,l):=by
 unfold zAI zAu;simp only [h1];rw [<-h2]
 cases zS (zW us) with
 | none=>rfl
 | some l =>
  rw [Option.bind_some,Option.bind_some]
  split<;>rfl
theorem zHr {cs pre post:List (List (List UInt8))} {seg:List (List UInt8)} (h:cs=pre++seg::post) (hs:xZ seg=none):zAu (zS cs)=none:=by
 have:zS cs=none:=by
  rw [h,jU]
  have:zS (seg::post)=none:=by
   show (xZ seg).bind _=none
   rw [hs];rfl
  rw [this]
  cases zS pre<;>rfl
 rw [this];rfl
theorem zJM {cs pre post:List (List (List UInt8))} (h:cs=pre++post) (hp:16<pre.length):zAu (zS cs)=none:=by
 cases hc:zS cs with
 | none=>rfl
 | some l =>
  have hl:=pL hc;show (if uD l=true then some l else none)=none;rw [if_neg];unfold uD;have:¬ l.length<=16:=by rw [hl,h,List.length_append];omega
  simp [this]
structure zA7 (W3:World) (N Q:Nat) (once:Bool) (ls:List (List UInt8)) (f i:Nat) (out:List Ex) (p:Option Addr) (c:Nat) (wr:World):Prop where
 res:wr.heap[N]? = some (.cells #[.bool false,.slice none 0 0] 25 (0,0))
 box:wr.heap[Q]? = some (.cells #[.bool once,.slice p out.length c] 25 (0,0))
 own:KEx.Own (Q+1) wr (.slice p out.length c) out
 each:∀x∈out,xI (Q+1) x wr
 bel:Below Q W3 wr
 size:Q+1<=wr.heap.size
 few:out.length<=16
 cut:∃pre,zS pre=some (out.map Ex.en)/\((i<=ls.length/\f<=i/\zW ls=pre++zW (ls.drop f)/\∀x∈(ls.drop f).take (i-f),x≠[59])∨(i=ls.length+1/\zW ls=pre))
theorem zEo {ls:List (List UInt8)} {f i:Nat} {x:List UInt8} (hf:f<=i) (hx:ls[i]? = some x) (hs:∀z∈(ls.drop f).take (i-f),z≠[59]) :
  (x≠[59]->∀z∈(ls.drop f).take (i+1-f),z≠[59])/\(x=[59]->zW (ls.drop f)=(ls.drop f).take (i-f)::zW (ls.drop (i+1))):=by
 have hg:(ls.drop f)[i-f]? = some x:=by rw [List.getElem?_drop];rw [show f+(i-f)=i by omega];exact hx
 refine ⟨fun hne z hz=>?_,fun he=>?_⟩
 ·rw [show i+1-f=(i-f)+1 by omega,List.take_add_one,hg] at hz
  rcases List.mem_append.1 hz with h|h
  ·exact hs z h
  ·have:z=x:=by simpa using h
   rw [this];exact hne
 ·subst he;obtain ⟨hl,hge⟩:=List.getElem?_eq_some_iff.1 hg
  have hsp:ls.drop f=(ls.drop f).take (i-f)++[59]::ls.drop (i+1):=by
   have h1:=(List.take_append_drop (i-f) (ls.drop f)).symm;rw [List.drop_eq_getElem_cons hl,hge,List.drop_drop,show f+(i-f+1)=i+1 by omega] at h1;exact h1
  have h2:=jQ ((ls.drop f).take (i-f)) (ls.drop (i+1)) hs;rw [<-hsp] at h2;exact h2
theorem zKw {ls:List (List UInt8)} {f:Nat} (hs:∀z∈(ls.drop f).take (ls.length-f),z≠[59]):zW (ls.drop f)=[(ls.drop f).take (ls.length-f)]:=by
 have e:(ls.drop f).take (ls.length-f)=ls.drop f:=List.take_of_length_le (by rw [List.length_drop];exact Nat.le_refl _);rw [e] at hs ⊢;exact kE _ hs
end
section
open Go.RowKit Go.Lib
theorem zJ7 (x:Tm) (w:World) (hp:zY w) (h1:1<=x.2.1/\x.2.1<=7) (h2:x.1.size<=32) (h3:x.2.2.size<=128) :
  Calls Tryz.prog 131 #[.agg #[.string x.1,.int .i64 x.2.1,.string x.2.2]] w fun e w'=>e=.returned (.string (xG x))/\Below w.heap.size w w':=by
 obtain ⟨xf,xo,xt⟩:=x;simp only at h1 h2 h3 ⊢;obtain ⟨W,hW⟩:∃W,w.alloc (.cells #[tq xf,ii xo,tq xt] 49)=W:=⟨_,rfl⟩;obtain ⟨F,hF⟩:∃F,w.heap.size=F:=⟨_,rfl⟩;have hbw:Below w.heap.size w W:=by rw [<-hW];exact (Below.refl _ _).alloc (Nat.le_refl _) _
 have hbox:kJ W F (xf,xo,xt):=by rw [<-hW,<-hF];exact zAz w (xf,xo,xt)
 have hwl2:=wX xt.data.toList;have hwl3:xt.data.toList.length=xt.size:=by simp
 have HW:=hid (bD xt W.drew (hp.on hbw.drew) (by omega));obtain ⟨wt,hwt⟩:∃wt:ByteArray,⟨(zI xt.data.toList).toArray⟩=wt:=⟨_,rfl⟩;have hwts:wt.size<=384:=by rw [<-hwt];show (zI xt.data.toList).toArray.size<=384;rw [List.size_toArray];omega
 rw [hwt] at HW;obtain ⟨S2,hS2⟩:∃S2:ByteArray,xf++⟨#[opC xo]⟩=S2:=⟨_,rfl⟩;have hS2s:S2.size<=33:=by rw [<-hS2,ByteArray.size_append];show _+1<=_;omega
 obtain ⟨S4,hS4⟩:∃S4:ByteArray,S2++wt=S4:=⟨_,rfl⟩;have HV:Hid (xG (xf,xo,xt)=S4):=by show _=_;rw [<-hS4,<-hS2,<-hwt];rfl
 have hA:∀w,Sem.run Tryz.prog (Op.stringOp .add xf ⟨#[opC xo]⟩) w=.ok (tq S2) w:=fun w=>by rw [<-hS2];exact run_string_add_sum _ _ _ (by show xf.size+1<=_;omega)
 have hC:∀w,Sem.run Tryz.prog (Op.stringOp .add S2 wt) w=.ok (tq S4) w:=fun w=>by rw [<-hS4];exact run_string_add_sum _ _ _ (by omega)
 obtain ⟨m,hm7,hxo⟩:∃m:Nat,m<7/\xo=m+1:=⟨(xo-1).toNat,by omega,by omega⟩;have hw:IntKind.i64.wrap (xo-1)=(m:Int):=by rw [hxo];rw [show (m:Int)+1-1=m by omega];exact wrap_i64 _ (by omega) (by omega)
 have hm0:(0:Int)<=m:=by omega
 have hm7z:(m:Int)<7:=by omega
 have hsg:=zIV m hm7;rw [<-hxo] at hsg;have hA2:∀w,Sem.run Tryz.prog (Op.stringOp .add xf (Utf8.encode (((⟨#[61,33,94,60,62,63,45]⟩:ByteArray)[m]'hm7).toNat:Int))) w=.ok (tq S2) w:=by rw [hsg];exact hA
 obtain ⟨c0,c1,c2⟩:=hbox.cells;have KS:Hid (∀w':World,Below W.drew.heap.size W.drew w'->w'.cell? (aa F 0)=some (tq xf)/\w'.cell? (aa F 2)=some (tq xt)):=fun w' h=>⟨(kJ.on (w:=W.drew) hbox h).cells.1,(kJ.on (w:=W.drew) hbox h).cells.2.2⟩
 have HBW:=hid hbw;simp only at c0 c1 c2;clear hwl2 hwl3 hwt hS2 hS4 hwts hS2s h1 h2 h3 hp hA hxo hsg hbox hbw;go_enter Tryz.func131,Tryz.ntmps131;rw [hF];go_wp2_with fail
 go_region_held3 (fun w'=>w'.cell? (aa F 0)=some (tq xf)/\w'.cell? (aa F 2)=some (tq xt))
  (first|exact ⟨c0,c2⟩|exact q2)
  (first|(go_at_call 130;refine HW.out.mono ?_;rintro o w2 ⟨rfl,hb2⟩;have q2:=KS.out _ hb2))
 all_goals
  go_wp2_with fail
  go_ret;rw [<-hF];exact ⟨by rw [HV.out];rfl,zQ HBW.out.drew HBW.out.drew.size hb2⟩
theorem zH6 (v:Value) (p:List Tm) (w:World) (hp:zY w) (hv:KM.Is w v p) (hf:pY p) :
  Calls Tryz.prog 90 #[v] w fun e w'=>e=.returned (.tuple #[.string (zDG (wB p)),.int .i64 (wA p)])/\Below w.heap.size w w':=by
 obtain ⟨i0,hi0,hz0,hz1,hz2⟩:=info_parts Tryz.infoStr;have HI:=hid hi0;have HN:=hid (bF v p w hv hf);have HP:=hid hp;clear hv hf hp hi0
 by_cases hm:wA p=0
 ·have HAL:=hid (fun x hx=>dV (p:=p) x hx);have hal:=zBM p;have HM:=hid hm;obtain ⟨G,hG⟩:∃G,wB p=G:=⟨_,rfl⟩;rw [hG] at HAL hal;have HG:=hid hG;clear hm hG;go_enter Tryz.func90,Tryz.ntmps90;go_wp2_with (first|(go_at_call 117;refine HN.out.mono ?_;rintro e w1 ⟨⟨u,he,ho⟩,hb1⟩;rw [HM.out] at he;subst he;rw [HG.out] at ho;obtain ⟨p5,c5,hu,hd⟩:=zE.own_is ho;subst hu;have HD:=hid hd;have HB1:=hid hb1;have HP1:=hid (HP.out.on hb1);clear ho hd hb1))
  go_loopg [6,19] G.length (fun g vs vi wr=>∃i:Nat,vi=ii i/\i<=G.length/\G.length-i<=g/\Hid (Below w1.heap.size w1 wr)/\Hid (yV w1.heap.size wr vs ((G.take i).map xG)))
  case atStart=>exact ⟨0,rfl,by omega,by omega,Below.refl _ _,World.ownsRow_nil _ _ _ _⟩
  case round =>
   obtain ⟨i,rfl,hi,hgk,HB,HO⟩:=hrel
   by_cases hlt:i<G.length
   ·have hltz:(i:Int)<(G.length:Int):=by omega
    have hiz:(0:Int)<=i:=by omega
    obtain ⟨b,off,rfl,hat⟩:∃b off,p5=some (aa b off)/\KM.At w1 b off G:=by
     rcases HD.out with h|h
     ·subst h;simp at hlt
     ·exact h
    obtain ⟨c0,c1,c2⟩:=qR (zE.at_kept hat HB.out) i hlt;obtain ⟨hn,hr,hs⟩:=HAL.out _ (List.getElem_mem hlt);have hor:=kB hr;have hns:=vY hn;have hss:=of_decide_eq_true hs
    have htk:(G.take (i+1)).map xG=(G.take i).map xG++[xG G[i]]:=by
     rw [List.take_succ_eq_append_getElem hlt,List.map_append];simp
    have hns2:(G[i]).1.size<=32:=by simpa using hns
    have hal2:((G.take i).map xG).length=i:=by rw [List.length_map,List.length_take];omega
    obtain ⟨x,hx⟩:∃x,G[i]=x:=⟨_,rfl⟩;rw [hx] at c0 c1 c2 hor hns2 hss htk;have HWT:Hid (∀W,Below w1.heap.size w1 W->Calls Tryz.prog 131 #[.agg #[tq x.1,ii x.2.1,tq x.2.2]] W fun e w'=>e=.returned (tq (xG x))/\Below W.heap.size W w'):=fun W hb=>zJ7 x W (HP1.out.on hb) hor hns2 hss
    obtain ⟨acc,hacc⟩:∃acc,(G.take i).map xG=acc:=⟨_,rfl⟩;rw [hacc] at HO htk hal2;obtain ⟨wd,hwd⟩:∃wd,xG x=wd:=⟨_,rfl⟩;rw [hwd] at HWT htk;have HTK:=hid htk;have HAC:=hid hal2;have hal3:acc.length<=8:=by omega
    have hsz:=HB.out.size;obtain ⟨xf,xo,xt⟩:=x;simp only at c0 c1 c2 HWT;clear hat hn hr hs hx htk hns hss hor hns2 hwd hacc hal2
    go_wp2_with (first
     | (at_builtin;refine wpList_append_own _ rfl _ _ 43 rfl w1.heap.size 9 i0 (tq ⟨#[]⟩) 1 16 Tryz.underlying43 HI.out hz0 hz1 hz2 rfl (by decide) _ _ _ rfl HO3.out _ 1 1 [tq wd] rfl rfl (by intro j u hj;match j,hj with|0,hj=>simp at hj;subst hj;simp [Addr.add]) (by intro u hu;simp at hu;subst hu;rfl) (by unfold maxLen;omega) (by omega) (by have:=hb2.size;simp at this ⊢;omega) ?_;intro v4 w4 hown4 hg4 hnil4;have HO4:=hid hown4;have HG4:=hid hg4;clear hown4 hg4 hnil4)
     | (go_at_call 131;refine (HWT.out _ (HB.out.alloc hsz _)).mono ?_;rintro e w2 ⟨rfl,hb2⟩;have HO3:Hid (yV w1.heap.size (w2.alloc (.cells #[tq wd] 9)) _ acc):=hid ((yV.on (yV.on HO.out ((Below.refl _ wr).alloc (Nat.le_refl _) _)) hb2).on ((Below.refl _ _).alloc (Nat.le_refl _) _))))
    go_roundg (G.length-(i+1))
    case measure=>omega
    refine ⟨i+1,by go_num,by omega,by omega,?_,?_⟩
    ·have hb3:Below w1.heap.size w1 (w2.alloc (.cells #[tq wd] 9)):=(zQ (HB.out.alloc hsz _) (HB.out.alloc hsz _).size hb2).alloc (Nat.le_trans (HB.out.alloc hsz _).size hb2.size) _;exact hb3.grown HG4.out hb3.size (fun k hk=>(World.ownsRow.lt HO3.out k hk).1)
    ·rw [HTK.out];show yV _ _ _ _;unfold yV;rw [List.length_append,List.map_append];exact HO4.out
   ·have hltz:¬ (i:Int)<(G.length:Int):=by omega
    have htk2:G.take i=G:=List.take_of_length_le (by omega);rw [htk2] at HO
    have hws:∀y∈G.map xG,y.size<=417:=fun y hy=>by
     obtain ⟨t,ht,rfl⟩:=List.mem_map.1 hy;obtain ⟨a,_,c⟩:=HAL.out t ht;exact zAG a c
    have hwl:(G.map xG).length<=128:=by rw [List.length_map];omega
    obtain ⟨ws,hwe⟩:∃ws,G.map xG=ws:=⟨_,rfl⟩;have HLN:Hid (zDG G=⟨(Lib.join (ws.map (·.data.toList)) [32]).toArray⟩):=by show _=_;rw [<-hwe];rfl
    rw [hwe] at HO hws hwl;clear htk2 hwe;obtain ⟨p4,cap4,hv4⟩:=tF HO.out;subst hv4;have HJ:=hid (zF1 ws p4 cap4 wr HO.out hwl hws);clear hws hwl;go_wp2_with (first|(go_at_call 26;refine HJ.out.mono ?_;rintro e w2 ⟨rfl,hb2⟩))
    go_ret2
    exact ⟨by rw [HM.out,HG.out,HLN.out];rfl,zQ (zQ HB1.out HB1.out.size HB.out) (zQ HB1.out HB1.out.size HB.out).size hb2⟩
 ·have hne:(wA p != 0)=true:=by rw [bne_iff_ne];exact hm
  have HA:Hid (wB p=[]):=by show _=_;unfold wB;rw [if_neg hm]
  obtain ⟨r,hr⟩:∃r,wA p=r:=⟨_,rfl⟩;rw [hr] at hne;have HR:=hid hr;clear hm hr;go_enter Tryz.func90,Tryz.ntmps90;go_wp2_with (first|(go_at_call 117;refine HN.out.mono ?_;rintro e w1 ⟨⟨u,he,ho⟩,hb1⟩;rw [HR.out] at he;subst he;clear ho))
  go_ret2
  exact ⟨by rw [HR.out,HA.out];rfl,hb1⟩
end
section
open Go.RowKit Go.Lib
def kC (o:Int):UInt8:=if o=1 then 58 else if o=2 then 43 else if o=3 then 45 else if o=4 then 126 else 61
theorem zO3 (m:Nat) (h:m<5):Utf8.encode (((⟨#[58,43,45,126,61]⟩:ByteArray)[m]'h).toNat:Int)=⟨#[kC ((m:Int)+1)]⟩:=by
 have:m=0∨m=1∨m=2∨m=3∨m=4:=by omega
 rcases this with rfl|rfl|rfl|rfl|rfl<;>decide +revert
theorem zJh:xL 4=⟨#[kC 4]⟩:=rfl
theorem zJe {o:Int} (h1:1<=o) (h2:o<=5) (h4:o≠4):xL o=⟨#[kC o]⟩++⟨#[61]⟩:=by
 have:o=1∨o=2∨o=3∨o=5:=by omega
 rcases this with rfl|rfl|rfl|rfl<;>rfl
theorem zD4 {x:Ed} (h:xN x=true):(1<=x.1/\x.1<=5)/\(x.1=4->x.2.2.size=0):=by
 unfold xN at h;rw [Bool.and_eq_true,Bool.and_eq_true,Bool.or_eq_true] at h;refine ⟨⟨of_decide_eq_true h.1.1,of_decide_eq_true h.1.2⟩,fun e=>?_⟩
 rcases h.2 with k|k
 ·exact absurd e (of_decide_eq_true k)
 ·exact of_decide_eq_true k
theorem zIh (x:Ed) (w:World) (hp:zY w) (h1:1<=x.1/\x.1<=5) (h2:x.2.1.size<=32) (h3:x.2.2.size<=128) (h4:x.1=4->x.2.2.size=0) :
  Calls Tryz.prog 132 #[.agg #[.int .i64 x.1,.string x.2.1,.string x.2.2]] w fun e w'=>e=.returned (.string (xB x))/\Below w.heap.size w w':=by
 obtain ⟨xo,xf,xt⟩:=x;simp only at h1 h2 h3 h4 ⊢;obtain ⟨W,hW⟩:∃W,w.alloc (.cells #[ii xo,tq xf,tq xt] 47)=W:=⟨_,rfl⟩;obtain ⟨F,hF⟩:∃F,w.heap.size=F:=⟨_,rfl⟩;have hbw:Below w.heap.size w W:=by rw [<-hW];exact (Below.refl _ _).alloc (Nat.le_refl _) _
 have hbox:mQ W F (xo,xf,xt):=by rw [<-hW,<-hF];exact dN w (xo,xf,xt)
 have hwl2:=wX xt.data.toList;have hwl3:xt.data.toList.length=xt.size:=by simp
 have HW:Hid (∀n,Calls Tryz.prog 130 #[tq xt] (W.drewN n) fun e w'=>e=.returned (tq ⟨(zI xt.data.toList).toArray⟩)/\Below (W.drewN n).heap.size (W.drewN n) w'):=fun n=>bD xt (W.drewN n) (hp.on (bN hbw n)) (by omega)
 obtain ⟨wt,hwt⟩:∃wt:ByteArray,⟨(zI xt.data.toList).toArray⟩=wt:=⟨_,rfl⟩;have hwts:wt.size<=384:=by rw [<-hwt];show (zI xt.data.toList).toArray.size<=384;rw [List.size_toArray];omega
 rw [hwt] at HW;obtain ⟨S2,hS2⟩:∃S2:ByteArray,xf++⟨#[kC xo]⟩=S2:=⟨_,rfl⟩;have hS2s:S2.size<=33:=by rw [<-hS2,ByteArray.size_append];show _+1<=_;omega
 obtain ⟨S3,hS3⟩:∃S3:ByteArray,S2++⟨#[61]⟩=S3:=⟨_,rfl⟩;have hS3s:S3.size<=34:=by rw [<-hS3,ByteArray.size_append];show _+1<=_;omega
 obtain ⟨S4,hS4⟩:∃S4:ByteArray,S3++wt=S4:=⟨_,rfl⟩;have hA:∀w,Sem.run Tryz.prog (Op.stringOp .add xf ⟨#[kC xo]⟩) w=.ok (tq S2) w:=fun w=>by rw [<-hS2];exact run_string_add_sum _ _ _ (by show xf.size+1<=_;omega)
 have hB:∀w,Sem.run Tryz.prog (Op.stringOp .add S2 ⟨#[61]⟩) w=.ok (tq S3) w:=fun w=>by rw [<-hS3];exact run_string_add_sum _ _ _ (by show S2.size+1<=_;omega)
 have hC:∀w,Sem.run Tryz.prog (Op.stringOp .add S3 wt) w=.ok (tq S4) w:=fun w=>by rw [<-hS4];exact run_string_add_sum _ _ _ (by omega)
 obtain ⟨m,hm5,hxo⟩:∃m:Nat,m<5/\xo=m+1:=⟨(xo-1).toNat,by omega,by omega⟩;have hw:IntKind.i64.wrap (xo-1)=(m:Int):=by rw [hxo];rw [show (m:Int)+1-1=m by omega];exact mR _ (by omega) (by omega)
 have hm0:(0:Int)<=m:=by omega
 have hm5z:(m:Int)<5:=by omega
 have hsg:=zO3 m hm5;rw [<-hxo] at hsg;have hA2:∀w,Sem.run Tryz.prog (Op.stringOp .add xf (Utf8.encode (((⟨#[58,43,45,126,61]⟩:ByteArray)[m]'hm5).toNat:Int))) w=.ok (tq S2) w:=by rw [hsg];exact hA
 obtain ⟨c0,c1,c2⟩:=hbox.cells;have HBW:=hid hbw;simp only at c0 c1 c2
 by_cases hk:xo=4
 ·have hkb:(xo==4)=true:=by rw [hk];rfl
  have HV:Hid (xB (xo,xf,xt)=S2):=by
   show _=_
   have ht0:xt.data.toList=[]:=List.length_eq_zero_iff.1 (by rw [hwl3];exact h4 hk);rw [<-hS2];unfold xB;simp only;rw [ht0,show zI []=[] from rfl,hk,zJh];exact nN (by simp)
  clear hwl2 hwl3 hwt hS2 hS3 hS4 hwts hS2s hS3s h1 h2 h3 h4 hp hA hB hC hxo hsg hbox hbw HW hk;go_enter Tryz.func132,Tryz.ntmps132;rw [hF];go_wp2_with fail
  go_quiet (fail)
  go_wp2_with fail
  go_ret;rw [<-hF];exact ⟨by rw [HV.out];rfl,bN HBW.out _⟩
 ·have hkb:(xo==4)=false:=beq_eq_false_iff_ne.2 hk
  have HV:Hid (xB (xo,xf,xt)=S4):=by
   show _=_
   rw [<-hS4,<-hS3,<-hS2,<-hwt];unfold xB;simp only;rw [zJe h1.1 h1.2 hk];exact nN (by simp)
  clear hwl2 hwl3 hwt hS2 hS3 hS4 hwts hS2s hS3s h1 h2 h3 h4 hp hA hxo hsg hbox hbw hk;go_enter Tryz.func132,Tryz.ntmps132;rw [hF];go_wp2_with fail
  go_quiet (fail)
  go_wp2_with (go_at_call 130;refine (HW.out _).mono ?_;rintro o w2 ⟨rfl,hb2⟩)
  go_ret;rw [<-hF];exact ⟨by rw [HV.out];rfl,(bN HBW.out _).trans (hb2.mono HBW.out.size)⟩
theorem zJm (ws:List ByteArray) (p:Option Addr) (cap:Nat) (w:World) {n0:Nat} (h:yV n0 w (.slice p ws.length cap) ws) (hn:ws.length<=128) (hs:∀x∈ws,x.size<=418) :
  Calls Tryz.prog 26 #[.slice p ws.length cap,.string ⟨#[32]⟩] w fun e w'=>e=.returned (.string ⟨(Lib.join (ws.map (·.data.toList)) [32]).toArray⟩)/\Below w.heap.size w w':=by
 rcases h.2 with ⟨_,h0⟩|⟨g,c,cur,hv,_,hg,hcap,_,hsz,htk⟩
 ·obtain rfl:=List.length_eq_zero_iff.1 h0;refine (Tryz.strings_Join_none p cap _ w).mono ?_;rintro e w' ⟨rfl,rfl⟩;exact ⟨rfl,Below.refl _ _⟩
 ·injection hv with hp hl hc
  subst hp;subst hc;refine (Tryz.strings_Join g 0 cap ws ⟨#[32]⟩ w (fun j x hj=>?_) (Array.getElem?_eq_some_iff.1 hg).1 (by omega) (by omega) ?_).mono ?_
  ·have hjl:=(List.getElem?_eq_some_iff.1 hj).1;rw [Nat.zero_add,cell_of_row w g j cur _ _ hg,<-Array.getElem?_toList];have:(ws.map Value.string)[j]? = cur.toList[j]?:=by rw [<-htk,List.getElem?_take,if_pos (by omega)]
   rw [<-this,List.getElem?_map,hj];rfl
  ·have h1:=zFt (ws.map (·.data.toList)) 418 (fun l hl=>by
    obtain ⟨x,hx,rfl⟩:=List.mem_map.1 hl;have:=hs x hx
    simpa using this)
   rw [List.length_map] at h1;have h2:ws.length * 419<=128 * 419:=Nat.mul_le_mul_right _ hn;show (Lib.join (ws.map (·.data.toList)) [32]).length<=_;omega
  ·rintro e w' ⟨rfl,hb⟩;exact ⟨rfl,hb⟩
theorem zC5 (v:Value) (p:List Ed) (w:World) (hp:zY w) (hv:KE.Is w v p) (hf:jF p) :
  Calls Tryz.prog 91 #[v] w fun e w'=>e=.returned (.tuple #[.string (prE p),.int .i64 (wK p)])/\Below w.heap.size w w':=by
 obtain ⟨i0,hi0,hz0,hz1,hz2⟩:=info_parts Tryz.infoStr;have HI:=hid hi0;have HN:=hid (bJ v p w hv hf);have HP:=hid hp
 by_cases hm:wK p=0
 ·obtain ⟨hl16,hn,hr,hs⟩:=sV hm;have HAL:=hid (fun x (hx:x∈p)=>And.intro (hn x hx) (And.intro (hr x hx) (hs x hx)));have HM:=hid hm;rw [hm] at HN;obtain ⟨q,cap,rfl,hd⟩:=hv;have HD:=hid hd;have HPR:Hid (prE p=xT (p.map xB)):=by show _=_;unfold prE zLt;rw [if_pos hm]
  clear hm hn hr hs hf hp hi0 hd;go_enter Tryz.func91,Tryz.ntmps91;go_wp2_with fail;refine HN.out.mono ?_;rintro e w1 ⟨rfl,hb1⟩;have HB1:=hid hb1;have HP1:=hid (HP.out.on hb1)
  have HD1:Hid (p=[]∨∃b off,q=some (aa b off)/\KE.At w1 b off p):=by
   rcases HD.out with h|⟨b,off,h1,h2⟩
   ·exact Or.inl h
   ·exact Or.inr ⟨b,off,h1,zE.at_kept h2 hb1⟩
  clear hb1;go_wp2_with fail
  go_loopg [5,15] p.length (fun g vs vi wr=>∃i:Nat,vi=ii i/\i<=p.length/\p.length-i<=g/\Hid (Below w1.heap.size w1 wr)/\Hid (yV w1.heap.size wr vs ((p.take i).map xB)))
  case atStart=>exact ⟨0,rfl,by omega,by omega,Below.refl _ _,World.ownsRow_nil _ _ _ _⟩
  case round =>
   obtain ⟨i,rfl,hi,hgk,HB,HO⟩:=hrel
   by_cases hlt:i<p.length
   ·have hltz:(i:Int)<(p.length:Int):=by omega
    have hiz:(0:Int)<=i:=by omega
    obtain ⟨b,off,rfl,hat⟩:∃b off,q=some (aa b off)/\KE.At w1 b off p:=by
     rcases HD1.out with h|h
     ·subst h;simp at hlt
     ·exact h
    obtain ⟨c0,c1,c2⟩:=mX (zE.at_kept hat HB.out) i hlt;obtain ⟨hn,hr,hs⟩:=HAL.out _ (List.getElem_mem hlt);obtain ⟨hor,h4⟩:=zD4 hr;have hns:=vY hn;have hss:=of_decide_eq_true hs
    have htk:(p.take (i+1)).map xB=(p.take i).map xB++[xB p[i]]:=by
     rw [List.take_succ_eq_append_getElem hlt,List.map_append];simp
    have hns2:(p[i]).2.1.size<=32:=by simpa using hns
    have hal2:((p.take i).map xB).length=i:=by rw [List.length_map,List.length_take];omega
    obtain ⟨x,hx⟩:∃x,p[i]=x:=⟨_,rfl⟩;rw [hx] at c0 c1 c2 hor hns2 hss htk h4;have HWT:Hid (∀W,Below w1.heap.size w1 W->Calls Tryz.prog 132 #[.agg #[ii x.1,tq x.2.1,tq x.2.2]] W fun e w'=>e=.returned (tq (xB x))/\Below W.heap.size W w'):=fun W hb=>zIh x W (HP1.out.on hb) hor hns2 hss h4
    obtain ⟨acc,hacc⟩:∃acc,(p.take i).map xB=acc:=⟨_,rfl⟩;rw [hacc] at HO htk hal2;obtain ⟨wd,hwd⟩:∃wd,xB x=wd:=⟨_,rfl⟩;rw [hwd] at HWT htk;have HTK:=hid htk;have HAC:=hid hal2;have hal3:acc.length<=16:=by omega
    have hsz:=HB.out.size;obtain ⟨xo,xf,xt⟩:=x;simp only at c0 c1 c2 HWT;clear hat hn hr hs hx htk hns hss hor hns2 hwd hacc hal2 h4
    go_wp2_with (first
     | (at_builtin;refine wpList_append_own _ rfl _ _ 43 rfl w1.heap.size 9 i0 (tq ⟨#[]⟩) 1 16 Tryz.underlying43 HI.out hz0 hz1 hz2 rfl (by decide) _ _ _ rfl HO3.out _ 1 1 [tq wd] rfl rfl (by intro j u hj;match j,hj with|0,hj=>simp at hj;subst hj;simp [Addr.add]) (by intro u hu;simp at hu;subst hu;rfl) (by unfold maxLen;omega) (by omega) (by have:=hb2.size;simp at this ⊢;omega) ?_;intro v4 w4 hown4 hg4 hnil4;have HO4:=hid hown4;have HG4:=hid hg4;clear hown4 hg4 hnil4)
     | (go_at_call 132;refine (HWT.out _ (HB.out.alloc hsz _)).mono ?_;rintro e w2 ⟨rfl,hb2⟩;have HO3:Hid (yV w1.heap.size (w2.alloc (.cells #[tq wd] 9)) _ acc):=hid ((yV.on (yV.on HO.out ((Below.refl _ wr).alloc (Nat.le_refl _) _)) hb2).on ((Below.refl _ _).alloc (Nat.le_refl _) _))))
    go_roundg (p.length-(i+1))
    case measure=>omega
    refine ⟨i+1,by go_num,by omega,by omega,?_,?_⟩
    ·have hb3:Below w1.heap.size w1 (w2.alloc (.cells #[tq wd] 9)):=(zQ (HB.out.alloc hsz _) (HB.out.alloc hsz _).size hb2).alloc (Nat.le_trans (HB.out.alloc hsz _).size hb2.size) _;exact hb3.grown HG4.out hb3.size (fun k hk=>(World.ownsRow.lt HO3.out k hk).1)
    ·rw [HTK.out];show yV _ _ _ _;unfold yV;rw [List.length_append,List.map_append];exact HO4.out
   ·have hltz:¬ (i:Int)<(p.length:Int):=by omega
    have htk2:p.take i=p:=List.take_of_length_le (by omega);rw [htk2] at HO
    have hws:∀y∈p.map xB,y.size<=418:=fun y hy=>by
     obtain ⟨t,ht,rfl⟩:=List.mem_map.1 hy;obtain ⟨a,_,c⟩:=HAL.out t ht;exact zAD a c
    have hwl:(p.map xB).length<=128:=by rw [List.length_map];omega
    obtain ⟨ws,hwe⟩:∃ws,p.map xB=ws:=⟨_,rfl⟩;rw [hwe] at HPR;have HLN:Hid (xT ws=⟨(Lib.join (ws.map (·.data.toList)) [32]).toArray⟩):=by show _=_;rfl
    rw [hwe] at HO hws hwl;clear htk2 hwe;obtain ⟨p4,cap4,hv4⟩:=tF HO.out;subst hv4;have HJ:=hid (zJm ws p4 cap4 wr HO.out hwl hws);clear hws hwl;go_wp2_with (first|(go_at_call 26;refine HJ.out.mono ?_;rintro e w2 ⟨rfl,hb2⟩))
    go_ret2
    exact ⟨by rw [HM.out,HPR.out,HLN.out];rfl,zQ (zQ HB1.out HB1.out.size HB.out) (zQ HB1.out HB1.out.size HB.out).size hb2⟩
 ·have hne:(wK p != 0)=true:=by rw [bne_iff_ne];exact hm
  have HA:Hid (prE p=⟨#[]⟩):=by show _=_;unfold prE;rw [if_neg hm]
  obtain ⟨r,hr⟩:∃r,wK p=r:=⟨_,rfl⟩;rw [hr] at hne HN;have HR:=hid hr;clear hm hr hv hf hp;go_enter Tryz.func91,Tryz.ntmps91;go_wp2_with fail;refine HN.out.mono ?_;rintro e w1 ⟨rfl,hb1⟩;have HB1:=hid hb1;clear hb1;go_wp2_with fail
  go_ret2
  exact ⟨by rw [HR.out,HA.out];rfl,HB1.out⟩
end
section
open Go.RowKit Go.Lib
def vD (e:En) (p:Nat):ByteArray :=
 if p=1 then if e.temp=⟨#[]⟩ then ⟨#[]⟩ else ⟨#[64]⟩++e.temp
 else if p=2 then e.ka++⟨#[47]⟩++e.kb
 else if p=3 then e.ka
 else if p=4 then if e.iff=0 then ⟨#[]⟩ else ⟨#[105,102,32]⟩++⟨(yH e.iff.toNat).toArray⟩
 else if p=5 then mG e.val
 else if p=6 then ⟨#[63]⟩
 else if p=7 then zDG (wB e.pred)
 else if p=8 then prE e.eds
 else if p=9 then ⟨(yH e.num.toNat).toArray⟩
 else ⟨(yH e.stamp.toNat).toArray⟩
theorem zDM {s:ByteArray} (h:vI s.data.toList=true):s.size<=32:=by
 have e:s.size=s.data.toList.length:=rfl;rw [e];unfold vI xD at h
 split at h
 ·cases h
 ·rename_i c r he
  simp only [Bool.and_eq_true,decide_eq_true_eq] at h;rw [he,List.length_cons];exact h.1.1
theorem zEe (x:Ex) (p:Nat) (w:World) (hx:uJ w x) (hv:wQ w) (h1:1<=p) (h2:p<=10) (hf:uQ x.en p=true) :
  Calls Tryz.prog 46 #[wR x,.int .i64 p] w fun e w'=>e=.returned (.string (vD x.en p))/\Below w.heap.size w w':=by
 have HK:=hid (kK hx);have hm:x.temp.size<=maxLen:=hx.temp;have ha:x.ka.size<=maxLen:=hx.ka;have hbk:x.kb.size<=maxLen:=hx.kb;have HF:=hid hf;have HV:=hid (hv.on HK.out.bel);have ht0:0<=x.stamp:=hx.t0;have ht1:x.stamp<=18446744073709551615:=hx.t1;have HPM:=hid (zH6 x.ps x.po _ HV.out.plain HK.out.ex.prd HK.out.ex.pfit);have HPE:=hid (zC5 x.es x.eo _ HV.out.plain HK.out.ex.eds HK.out.ex.efit)
 have HPV:Hid (xU (x.vo.map Fx.fld)=true->Calls Tryz.prog 89 #[x.vs] (w.alloc (.cells (yZ x).toArray 42)) fun e w'=>e=.returned (.tuple #[tq (mG (x.vo.map Fx.fld)),ii 0])/\Below (w.alloc (.cells (yZ x).toArray 42)).heap.size (w.alloc (.cells (yZ x).toArray 42)) w') :=
  hid fun h=>zJi x.vs x.vo _ HV.out.plain HK.out.ex.val HK.out.ex.fit h
 have HKB:=hid HK.out.bel;unfold wR;simp only [yZ,Ex.vs,Ex.es,Ex.ps] at HK HKB HV HPM HPE HPV ⊢;clear hx hv hf;have hp:p=1∨p=2∨p=3∨p=4∨p=5∨p=6∨p=7∨p=8∨p=9∨p=10:=by omega
 rcases hp with rfl|rfl|rfl|rfl|rfl|rfl|rfl|rfl|rfl|rfl
 ·by_cases ht:x.temp=⟨#[]⟩
  ·have hse:x.temp.toList.isEmpty=true:=by rw [ht,toList_data];rfl
   have HE:Hid (vD x.en 1=⟨#[]⟩):=hid (if_pos ht);clear ht;go_enter Tryz.func46,Tryz.ntmps46;go_wp2_with fail;go_ret;exact ⟨by rw [HE.out];rfl,HKB.out⟩
  ·have hse:x.temp.toList.isEmpty=false:=by
    rw [toList_data]
    cases hl:x.temp.data.toList with
    | nil=>exact absurd (fY hl) ht
    | cons _ _=>rfl
   have HE:Hid (vD x.en 1=⟨#[64]⟩++x.temp):=hid (if_neg ht)
   have hsz:x.temp.size<=32:=by
    have h:=HF.out;have h2:(decide (x.temp=⟨#[]⟩)||vI x.temp.data.toList)=true:=h;rw [decide_eq_false ht,Bool.false_or] at h2;exact zDM h2
   clear ht;go_enter Tryz.func46,Tryz.ntmps46;go_wp2_with fail;go_ret;exact ⟨by rw [HE.out];rfl,HKB.out⟩
 ·have hk:tR x.ka x.kb=true:=HF.out;obtain ⟨s1,s2⟩:=nF hk;go_enter Tryz.func46,Tryz.ntmps46;go_wp2_with (go_at_call 87;refine (zHI x.ka x.kb _ ha hbk s1 s2 hk).mono ?_;rintro e w1 ⟨rfl,hb1⟩;have HB1:=hid hb1;clear hb1);go_ret;exact ⟨rfl,HKB.out.trans (HB1.out.mono HKB.out.size)⟩
 ·go_enter Tryz.func46,Tryz.ntmps46
  go_wp2_with fail
  go_ret;exact ⟨rfl,HKB.out⟩
 ·have h:=HF.out;have h3:(decide (0<=x.iff)&&decide (x.iff<=999999999))=true:=h;simp only [Bool.and_eq_true,decide_eq_true_eq] at h3;obtain ⟨n,hn⟩:∃n:Nat,x.iff=n:=⟨x.iff.toNat,by omega⟩;have hn9:n<=999999999:=by omega
  by_cases h0:n=0
  ·have HE:Hid (vD x.en 4=⟨#[]⟩):=hid (by
    show (if x.iff=0 then (⟨#[]⟩:ByteArray) else _)=_
    rw [if_pos (by omega)])
   have hq:(x.iff != 0)=false:=by rw [hn,h0];rfl
   clear hn h0 h3 h;go_enter Tryz.func46,Tryz.ntmps46;go_wp2_with fail;go_ret;exact ⟨by rw [HE.out];rfl,HKB.out⟩
  ·have HE:Hid (vD x.en 4=⟨#[105,102,32]⟩++⟨(yH n).toArray⟩):=hid (by
    show (if x.iff=0 then (⟨#[]⟩:ByteArray) else ⟨#[105,102,32]⟩++⟨(yH x.iff.toNat).toArray⟩)=_
    rw [if_neg (by omega),hn];rfl)
   have hq:(x.iff != 0)=true:=by rw [bne_iff_ne];omega
   have HI:Hid (∀W,wQ W->Calls Tryz.prog 88 #[ii x.iff] W fun e w'=>e=.returned (tq ⟨(yH n).toArray⟩)/\Below W.heap.size W w'):=hid fun W h=>by rw [hn];exact zFL n hn9 W h
   have hdl:(yH n).length<=9:=qX n 8 (by omega);clear hn h3 h;go_enter Tryz.func46,Tryz.ntmps46;go_wp2_with (go_at_call 88;refine (HI.out _ HV.out).mono ?_;rintro e w1 ⟨rfl,hb1⟩;have HB1:=hid hb1;clear hb1);go_ret;exact ⟨by rw [HE.out];rfl,HKB.out.trans (HB1.out.mono HKB.out.size)⟩
 ·have hk:xU (x.vo.map Fx.fld)=true:=HF.out;go_enter Tryz.func46,Tryz.ntmps46;go_wp2_with (go_at_call 89;refine (HPV.out hk).mono ?_;rintro e w1 ⟨rfl,hb1⟩;have HB1:=hid hb1;clear hb1);go_ret;exact ⟨rfl,HKB.out.trans (HB1.out.mono HKB.out.size)⟩
 ·go_enter Tryz.func46,Tryz.ntmps46
  go_wp2_with fail
  go_ret;exact ⟨rfl,HKB.out⟩
 ·go_enter Tryz.func46,Tryz.ntmps46
  go_wp2_with (go_at_call 90;refine HPM.out.mono ?_;rintro e w1 ⟨rfl,hb1⟩;have HB1:=hid hb1;clear hb1)
  go_ret;exact ⟨rfl,HKB.out.trans (HB1.out.mono HKB.out.size)⟩
 ·go_enter Tryz.func46,Tryz.ntmps46
  go_wp2_with (go_at_call 91;refine HPE.out.mono ?_;rintro e w1 ⟨rfl,hb1⟩;have HB1:=hid hb1;clear hb1)
  go_ret;exact ⟨rfl,HKB.out.trans (HB1.out.mono HKB.out.size)⟩
 ·have h:=HF.out;have h3:(decide (0<=x.num)&&decide (x.num<=999999999))=true:=h;simp only [Bool.and_eq_true,decide_eq_true_eq] at h3;obtain ⟨n,hn⟩:∃n:Nat,x.num=n:=⟨x.num.toNat,by omega⟩
  have HE:Hid (vD x.en 9=⟨(yH n).toArray⟩):=hid (by
   show (⟨(yH x.num.toNat).toArray⟩:ByteArray)=_
   rw [hn];rfl)
  have HI:Hid (∀W,wQ W->Calls Tryz.prog 88 #[ii x.num] W fun e w'=>e=.returned (tq ⟨(yH n).toArray⟩)/\Below W.heap.size W w'):=hid fun W h=>by rw [hn];exact zFL n (by omega) W h
  clear hn h3 h;go_enter Tryz.func46,Tryz.ntmps46;go_wp2_with (go_at_call 88;refine (HI.out _ HV.out).mono ?_;rintro e w1 ⟨rfl,hb1⟩;have HB1:=hid hb1;clear hb1);go_ret;exact ⟨by rw [HE.out];rfl,HKB.out.trans (HB1.out.mono HKB.out.size)⟩
 ·obtain ⟨n,hn⟩:∃n:Nat,x.stamp=n:=⟨x.stamp.toNat,by omega⟩
  have HE:Hid (vD x.en 10=⟨(yH n).toArray⟩):=hid (by
   show (⟨(yH x.stamp.toNat).toArray⟩:ByteArray)=_
   rw [hn];rfl)
  have HI:Hid (∀W,wQ W->Calls Tryz.prog 92 #[iu x.stamp,ii 10] W fun e w'=>e=.returned (tq ⟨(yH n).toArray⟩)/\Below W.heap.size W w'):=hid fun W h=>by rw [hn];exact zBj n (by omega) W h
  clear hn;go_enter Tryz.func46,Tryz.ntmps46;go_wp2_with (go_at_call 92;refine (HI.out _ HV.out).mono ?_;rintro e w1 ⟨rfl,hb1⟩;have HB1:=hid hb1;clear hb1);go_ret;exact ⟨by rw [HE.out];rfl,HKB.out.trans (HB1.out.mono HKB.out.size)⟩
end
section
open Go.RowKit Go.Lib
theorem zKL (l:List Ed):(prE l).size<=83600:=by
 unfold prE
 split
 ·rename_i h
  obtain ⟨h1,h2,_,h4⟩:=sV h;refine Nat.le_trans (zBA (by simpa using h1) fun y hy=>?_) (by omega);obtain ⟨x,hx,rfl⟩:=List.mem_map.1 hy;exact zAD (h2 x hx) (h4 x hx)
 ·exact Nat.zero_le _
theorem zFh (p:List Tm):(zDG (wB p)).size<=83600:=by
 refine dE (by have:=zBM p;simp;omega) fun y hy=>?_
 obtain ⟨x,hx,rfl⟩:=List.mem_map.1 hy;exact zAG (dV x hx).1 (dV x hx).2.2
theorem zLf (e:En) (p:Nat) (h1:1<=p) (h2:p<=10) (hf:uQ e p=true) (hs0:0<=e.stamp) (hs1:e.stamp<=18446744073709551615):(vD e p).size<=83600:=by
 have hp:p=1∨p=2∨p=3∨p=4∨p=5∨p=6∨p=7∨p=8∨p=9∨p=10:=by omega
 rcases hp with rfl|rfl|rfl|rfl|rfl|rfl|rfl|rfl|rfl|rfl
 ·show (if e.temp=⟨#[]⟩ then (⟨#[]⟩:ByteArray) else ⟨#[64]⟩++e.temp).size<=_
  have hf':(decide (e.temp=⟨#[]⟩)||vI e.temp.data.toList)=true:=hf
  split
  ·decide
  ·rename_i h
   rw [decide_eq_false h,Bool.false_or] at hf';have:=zDM hf';simp only [ByteArray.size_append];have e1:(⟨#[64]⟩:ByteArray).size=1:=rfl;omega
 ·have hk:tR e.ka e.kb=true:=hf;obtain ⟨s1,s2⟩:=nF hk;show (e.ka++⟨#[47]⟩++e.kb).size<=_;simp only [ByteArray.size_append];have e1:(⟨#[47]⟩:ByteArray).size=1:=rfl;omega
 ·have hf':(xM e.ka.data.toList&&decide (e.kb=⟨#[]⟩))=true:=hf;rw [Bool.and_eq_true] at hf';have:=bK hf'.1;show e.ka.size<=_;have e1:e.ka.data.toList.length=e.ka.size:=rfl;omega
 ·have hf':(decide (0<=e.iff)&&decide (e.iff<=999999999))=true:=hf;simp only [Bool.and_eq_true,decide_eq_true_eq] at hf';show (if e.iff=0 then (⟨#[]⟩:ByteArray) else ⟨#[105,102,32]⟩++⟨(yH e.iff.toNat).toArray⟩).size<=_
  split
  ·decide
  ·have:=qX e.iff.toNat 8 (by omega);simp only [ByteArray.size_append];have e1:(⟨#[105,102,32]⟩:ByteArray).size=3:=rfl;have e2:(⟨(yH e.iff.toNat).toArray⟩:ByteArray).size=(yH e.iff.toNat).length:=rfl;omega
 ·have:=zCg (fs:=e.val) hf;show (mG e.val).size<=_;omega
 ·show (⟨#[63]⟩:ByteArray).size<=_;decide
 ·exact zFh _
 ·exact zKL _
 ·have hf':(decide (0<=e.num)&&decide (e.num<=999999999))=true:=hf;simp only [Bool.and_eq_true,decide_eq_true_eq] at hf';have:=qX e.num.toNat 8 (by omega);show (yH e.num.toNat).length<=_;omega
 ·have:=qX e.stamp.toNat 19 (by omega);show (yH e.stamp.toNat).length<=_;omega
def pcs (e:En) (ps:List Nat):List ByteArray:=(ps.map (vD e)).filter fun s=>decide (s≠⟨#[]⟩)
theorem zKU (e:En) (ps:List Nat) (p:Nat):pcs e (ps++[p])=pcs e ps++(if vD e p=⟨#[]⟩ then [] else [vD e p]):=by
 unfold pcs;rw [List.map_append,List.filter_append]
 congr 1
 by_cases h:vD e p=⟨#[]⟩<;>simp [h]
theorem zNG (e:En) (ps:List Nat):(pcs e ps).length<=ps.length:=by
 unfold pcs;exact Nat.le_trans (List.length_filter_le _ _) (by simp)
def vT (e:En):ByteArray:=zR (⟨(xP e.kind.toNat).toArray⟩::pcs e (zN e.kind.toNat))
theorem zCo {n0:Nat} {w:World} {p:Option Addr} {cap:Nat} {ws:List ByteArray} (h:yV n0 w (.slice p ws.length cap) ws) (h0:ws≠[]):wM w (.slice p ws.length cap) ws:=by
 rcases h.2 with ⟨_,h1⟩|⟨g,c,cur,hv,_,hg,hcap,_,hsz,htk⟩
 ·exact absurd (List.length_eq_zero_iff.1 h1) h0
 ·injection hv with hp hl hc
  subst hp;subst hc;refine ⟨g,0,cap,rfl,hcap,(Array.getElem?_eq_some_iff.1 hg).1,fun j x hj=>?_⟩;have hjl:=(List.getElem?_eq_some_iff.1 hj).1;rw [Nat.zero_add,cell_of_row w g j cur _ _ hg,<-Array.getElem?_toList];have:(ws.map Value.string)[j]? = cur.toList[j]?:=by rw [<-htk,List.getElem?_take,if_pos (by omega)]
  rw [<-this,List.getElem?_map,hj];rfl
theorem zIE (k:Nat):(xP k).length<=7:=by
 unfold xP
 split<;>simp
theorem zGw (ws:List ByteArray) (hl:ws.length<=6) (hs:∀x∈ws,x.size<=83600):(zR ws).size<=600000:=by
 have h:=mV 83600 (ws.map (·.L)) (fun l hl=>by
  obtain ⟨x,hx,rfl⟩:=List.mem_map.1 hl;have:=hs x hx
  simpa using this)
 rw [List.length_map] at h;have h2:ws.length * 83601<=6 * 83601:=Nat.mul_le_mul_right _ hl;have e:(zR ws).size=(Lib.join (ws.map (·.L)) [32]).length:=rfl;omega
theorem zD6 (e:En) (hf:(zN e.kind.toNat).all (uQ e)=true) (hs0:0<=e.stamp) (hs1:e.stamp<=18446744073709551615):(vT e).size<=600000:=by
 refine zGw _ ?_ fun x hx=>?_
 ·have h1:=zNG e (zN e.kind.toNat);have h2:=cL e.kind.toNat;rw [List.length_cons];omega
 ·rcases List.mem_cons.1 hx with rfl|hx
  ·have:=zIE e.kind.toNat;show (xP e.kind.toNat).length<=_;omega
  ·unfold pcs at hx;obtain ⟨p,hp,rfl⟩:=List.mem_map.1 (List.mem_filter.1 hx).1;obtain ⟨i,hi⟩:=List.getElem?_of_mem hp;obtain ⟨h1,h2⟩:=nA _ i p hi;exact zLf e p h1 h2 (List.all_eq_true.1 hf p hp) hs0 hs1
theorem zGL (x:Ex) (w:World) (hx:uJ w x) (hv:wQ w) (hr:1<=x.kind/\x.kind<=12) (hf:(zN x.kind.toNat).all (uQ x.en)=true) :
  Calls Tryz.prog 25 #[wR x] w fun e w'=>e=.returned (.string (vT x.en))/\Below w.heap.size w w':=by
 obtain ⟨i0,hi0,hz0,hz1,hz2⟩:=info_parts Tryz.infoStr;have HI:=hid hi0;have HX:=hid hx;have HV:=hid hv;have HLE:=hid (zD6 x.en hf hx.t0 hx.t1);have hal:Below w.heap.size w (w.alloc (.cells (yZ x).toArray 42)):=(Below.refl _ _).alloc (Nat.le_refl _) _;have hb0:(w.alloc (.cells (yZ x).toArray 42)).heap[w.heap.size]? = some (.cells (yZ x).toArray 42 (0,0)):=heap_alloc_new w _;have HAL:=hid hal;have HB0:=hid hb0;have HPC:Hid (∀W p,Below w.heap.size w W->1<=p->p<=10->uQ x.en p=true->Calls Tryz.prog 46 #[wR x,ii (p:Nat)] W fun e w'=>e=.returned (tq (vD x.en p))/\Below W.heap.size W w'):=hid fun W p h h1 h2 h3=>zEe x p W (HX.out.on h) (HV.out.on h) h1 h2 h3
 unfold wR at HPC ⊢;simp only [yZ,Ex.vs,Ex.es,Ex.ps] at HAL HB0 HPC ⊢;clear hal hb0 hx hv hi0;obtain ⟨kw,hkw⟩:∃kw:Nat,x.kind=kw:=⟨x.kind.toNat,by omega⟩;have hk1:1<=kw:=by omega
 have hk12:kw<=12:=by omega
 have hkn:x.kind.toNat=kw:=by omega
 rw [hkn] at hf;have HF:=hid hf
 have HLO:Hid (vT x.en=zR (⟨(xP kw).toArray⟩::pcs x.en (zN kw))):=hid (by
  show zR (⟨(xP x.kind.toNat).toArray⟩::pcs x.en (zN x.kind.toNat))=_
  rw [hkn])
 have HSH:Hid (∀W,Calls Tryz.prog 36 #[ii x.kind] W fun e w'=>(∃a n,e=.returned (.tuple #[tq ⟨(xP kw).toArray⟩,sc a n n])/\n=(zN kw).length /\
   ∀(j p:Nat),(zN kw)[j]? = some p->∃P,a=some (aa P 0)/\W.heap.size<=P/\w'.cell? (aa P j)=some (ii p))/\Below W.heap.size W w'):=hid fun W=>by rw [hkw];exact cX kw W hk12
 clear hkw hr hf hkn;go_enter Tryz.func25,Tryz.ntmps25;go_wp2_with fail;refine (HSH.out _).mono ?_;rintro e w3 ⟨⟨a,n,rfl,hn,hpt⟩,hb3⟩;have HN:=hid hn;have HB3:=hid (HAL.out.trans (hb3.mono HAL.out.size));have HBX:Hid (w3.heap[w.heap.size]? = some (.cells (vE x) 42 (0,0))):=hid ((hb3.block _ (by simp)).trans HB0.out)
 have HPT:Hid (∀(j p:Nat),(zN kw)[j]? = some p->∃P,a=some (aa P 0)/\w3.cell? (aa P j)=some (ii p)):=hid fun j p hp=>by
  obtain ⟨P,h1,h2,h3⟩:=hpt j p hp;exact ⟨P,h1,h3⟩
 clear hn hpt hb3;have HO0:Hid (yV w3.heap.size (w3.alloc (.cells #[tq ⟨(xP kw).toArray⟩] 9)) (sc (some (aa w3.heap.size 0)) 1 1) [⟨(xP kw).toArray⟩]):=hid (World.ownsRow_lit w3 #[tq ⟨(xP kw).toArray⟩] 1 (Nat.le_refl _) (by decide) rfl);have HB4:Hid (Below w3.heap.size w3 (w3.alloc (.cells #[tq ⟨(xP kw).toArray⟩] 9))):=hid ((Below.refl _ _).alloc (Nat.le_refl _) _);go_wp2_with fail
 go_loopg [5,19] n (fun g vs vi wr=>∃(i:Nat) (acc:List ByteArray),vi=ii i/\i<=n/\n-i<=g/\Hid (Below w3.heap.size w3 wr)/\Hid (yV w3.heap.size wr vs acc)/\Hid (acc=⟨(xP kw).toArray⟩::pcs x.en ((zN kw).take i))/\acc.length<=i+1)
 case atStart=>exact ⟨0,_,rfl,by omega,by omega,HB4,HO0,hid rfl,by simp⟩
 case round =>
  obtain ⟨i,acc,rfl,hi,hig,HB,HO,HAC,hal⟩:=hrel;have hn5:n<=5:=by rw [HN.out];exact cL kw
  by_cases hlt:i<n
  ·have HLT:=hid hlt;have hltz:(i:Int)<(n:Int):=by omega
   have hiz:(0:Int)<=(i:Int):=by omega
   obtain ⟨p,hp⟩:∃p,(zN kw)[i]? = some p:=⟨_,List.getElem?_eq_getElem (by rw [<-HN.out];exact hlt)⟩;obtain ⟨P,hPa,hPc0⟩:=HPT.out i p hp;subst hPa;have hPc:wr.cell? (aa P i)=some (ii p):=(HB.out.cell (p:=(aa P i)) (gP hPc0)).trans hPc0;obtain ⟨hp1,hp10⟩:=nA kw i p hp
   have HTK:Hid ((zN kw).take (i+1)=(zN kw).take i++[p]):=hid (by
    obtain ⟨h1,h2⟩:=List.getElem?_eq_some_iff.1 hp;rw [<-h2];exact List.take_succ_eq_append_getElem h1)
   have HFP:=hid (List.all_eq_true.1 HF.out p (List.mem_of_getElem? hp));clear hp hPc0;have hbx:wr.heap[w.heap.size]? = some (.cells (vE x) 42 (0,0)):=(HB.out.block _ (Array.getElem?_eq_some_iff.1 HBX.out).1).trans HBX.out;obtain ⟨c0,c1,c2,c3,c4,c5,c6,c7,c8,c9⟩:=sJ hbx;have HBW:=hid (HB3.out.trans (HB.out.mono HB3.out.size));clear hbx;go_wp2_with fail;refine (HPC.out wr p HBW.out hp1 hp10 HFP.out).mono ?_;rintro e w5 ⟨rfl,hb5⟩;have HB5:=hid (HB.out.trans (hb5.mono HB.out.size));have HO5:=hid (yV.on HO.out hb5);have hsz5:=HB5.out.size;clear hb5 c0 c1 c2 c3 c4 c5 c6 c7 c8 c9 hPc;have HSN:=hid (zKU x.en ((zN kw).take i) p);obtain ⟨wd,hwd⟩:∃wd,vD x.en p=wd:=⟨_,rfl⟩;rw [hwd] at HSN ⊢;clear hwd
   by_cases hw:wd=⟨#[]⟩
   ·have HSN2:Hid (acc=⟨(xP kw).toArray⟩::pcs x.en ((zN kw).take (i+1))):=hid (by
     rw [HTK.out,HSN.out,if_pos hw,List.append_nil];exact HAC.out)
    have hse:wd.toList.isEmpty=true:=by rw [hw,toList_data];rfl
    clear hw;go_wp2_with fail;go_roundg (n-(i+1))
    case measure=>omega
    exact ⟨i+1,acc,by go_num,HLT.out,Nat.le_refl _,HB5,HO5,HSN2,by omega⟩
   ·have HSN2:Hid (acc++[wd]=⟨(xP kw).toArray⟩::pcs x.en ((zN kw).take (i+1))):=hid (by
     rw [HTK.out,HSN.out,if_neg hw,<-List.cons_append,<-HAC.out])
    have hse:wd.toList.isEmpty=false:=by
     rw [toList_data]
     cases hl:wd.data.toList with
     | nil=>exact absurd (fY hl) hw
     | cons _ _=>rfl
    have HO6:=hid (yV.on HO5.out ((Below.refl _ w5).alloc (Nat.le_refl _) (.cells #[tq wd] 9)));clear hw;go_wp2_with (at_builtin;refine wpList_append_own _ rfl _ _ 43 rfl w3.heap.size 9 i0 (tq ⟨#[]⟩) 1 16 Tryz.underlying43 HI.out hz0 hz1 hz2 rfl (by decide) _ _ _ rfl HO6.out _ 1 1 [tq wd] rfl rfl (by intro j u hj;match j,hj with|0,hj=>simp at hj;subst hj;simp [Addr.add]) (by intro u hu;simp at hu;subst hu;rfl) (by unfold maxLen;omega) (by omega) (by simp;omega) ?_;intro v4 w4 hown4 hg4 hnil4;have HO7:=hid hown4;have HG7:=hid hg4;clear hown4 hg4 hnil4);go_roundg (n-(i+1))
    case measure=>omega
    refine ⟨i+1,acc++[wd],by go_num,HLT.out,Nat.le_refl _,hid ?_,hid (own_snoc HO7.out),HSN2,by rw [List.length_append];simp only [List.length_cons,List.length_nil];omega⟩;have hb6:Below w3.heap.size w3 (w5.alloc (.cells #[tq wd] 9)):=HB5.out.alloc hsz5 _;exact hb6.grown HG7.out hb6.size (fun k hk=>(World.ownsRow.lt HO6.out k hk).1)
  ·have hltz:¬ (i:Int)<(n:Int):=by omega
   have HAC2:Hid (acc=⟨(xP kw).toArray⟩::pcs x.en (zN kw)):=hid (by rw [HAC.out,List.take_of_length_le (by rw [<-HN.out];omega)]);obtain ⟨p4,cap4,hv4⟩:=tF HO.out;subst hv4;have HTX:Hid (zR acc=vT x.en):=hid (by rw [HLO.out,HAC2.out]);have HJ:=hid (vA wr _ acc (zCo HO.out (by rw [HAC2.out];simp)) (by rw [HTX.out];have:=HLE.out;omega) (by omega));go_wp2_with (go_at_call 26;refine HJ.out.mono ?_;rintro e w2 ⟨rfl,hb2⟩;have HB9:=hid ((HB3.out.trans (HB.out.mono HB3.out.size)).trans (hb2.mono (HB3.out.trans (HB.out.mono HB3.out.size)).size));clear hb2);go_ret;exact ⟨by rw [<-HTX.out];rfl,HB9.out⟩
end
section
open Go.RowKit Go.Lib
def kN (ls:List ByteArray):ByteArray:=⟨(Lib.join (ls.map (·.data.toList)) [32,59,32]).toArray⟩
def tK (once:Bool) (es:List En):ByteArray:=(if once=true then ⟨#[111,110,99,101,32]⟩ else ⟨#[]⟩)++kN (es.map vT)
theorem fQ (c:Nat):∀ws:List (List UInt8),(∀w∈ws,w.length<=c)->(Lib.join ws [32,59,32]).length<=ws.length * (c+3)
 | [],_=>by simp [Lib.join,List.intercalate]
 | [w],h=>by
  have:=h w (by simp);rw [Lib.join_one];simp only [List.length_cons,List.length_nil];omega
 | w::v::ws,h=>by
  have ih:=fQ c (v::ws) fun u hu=>h u (by simp [hu])
  have hw:=h w (by simp);have e:Lib.join (w::v::ws) [32,59,32]=w++([32,59,32]++Lib.join (v::ws) [32,59,32]):=by simp [Lib.join,List.intercalate]
  rw [e,List.length_append,List.length_append];simp only [List.length_cons,List.length_nil] at ih ⊢;have:(ws.length+1+1) * (c+3)=(ws.length+1) * (c+3)+(c+3):=by rw [Nat.add_mul (ws.length+1) 1];omega
  omega
theorem dD {x:Ex} (h:pO x=true):(1<=x.kind/\x.kind<=12)/\(zN x.kind.toNat).all (uQ x.en)=true/\(sA x (zN x.kind.toNat)).en=(vG 0).en:=by
 unfold pO at h;simp only [Bool.and_eq_true,decide_eq_true_eq] at h;exact ⟨h.1.1,h.1.2,h.2⟩
theorem zAL (once:Bool) (v:Value) (d:List Ex) (w:World) (hd:nP w v d) (hv:wQ w) :
  Calls Tryz.prog 10 #[.agg #[.bool once,v]] w fun e w' =>
   e=.returned (.tuple #[.string (if uN d=true then tK once (d.map Ex.en) else ⟨#[]⟩),.int .i64 (if uN d=true then 0 else 4)])/\Below w.heap.size w w':=by
 obtain ⟨i0,hi0,hz0,hz1,hz2⟩:=info_parts Tryz.infoStr;have HI:=hid hi0;have HD:=hid hd;have HV:=hid hv;obtain ⟨a,cap,rfl,hrow⟩:=hd.row;have hlen:=hd.len;have HR:=hid hrow;have HAL:Hid (Below w.heap.size w (w.alloc (.cells #[.bool once,sc a d.length cap] 25))):=hid ((Below.refl _ _).alloc (Nat.le_refl _) _);have HBX:Hid ((w.alloc (.cells #[.bool once,sc a d.length cap] 25)).heap[w.heap.size]? = some (.cells #[.bool once,sc a d.length cap] 25 (0,0))):=hid (heap_alloc_new w _);have HMY:=hid (bQ once (sc a d.length cap) d _ (hd.on HAL.out));clear hd hrow hv hi0
 cases hm:uN d with
 | false =>
  rw [hm] at HMY;go_enter Tryz.func10,Tryz.ntmps10;go_wp2_with (go_at_call 12;refine HMY.out.mono ?_;rintro e w1 ⟨rfl,hb1⟩;have HB1:=hid (HAL.out.trans (hb1.mono HAL.out.size));clear hb1)
  go_ret2
  exact ⟨rfl,HB1.out⟩
 | true =>
  rw [hm] at HMY;have hm2:=hm;unfold uN at hm2;simp only [Bool.and_eq_true,decide_eq_true_eq] at hm2;obtain ⟨⟨hl0,hl16⟩,hall⟩:=hm2;have HALL:=hid hall
  obtain ⟨b,off,rfl,hat⟩:∃b off,a=some (aa b off)/\KEx.At w b off d:=by
   rcases HR.out with h|⟨b,off,h1,h2⟩
   ·rw [h] at hl0;simp at hl0
   ·exact ⟨b,off,h1,h2⟩
  have HAT:=hid hat;clear hat HR hall hm;go_enter Tryz.func10,Tryz.ntmps10;go_wp2_with fail;refine HMY.out.mono ?_;rintro e w1 ⟨rfl,hb1⟩;have HB1:=hid (HAL.out.trans (hb1.mono HAL.out.size));have hbx:w1.heap[w.heap.size]? = some (.cells #[.bool once,sc (some (aa b off)) d.length cap] 25 (0,0)):=(hb1.block _ (by simp)).trans HBX.out;obtain ⟨e0,e1,_,_⟩:=zL hbx;have HBX1:=hid hbx;clear hbx hb1;go_wp2_with fail
  go_loopg [4,14] d.length (fun g vs vi wr=>∃(i:Nat),vi=ii i/\i<=d.length/\d.length-i<=g/\Hid (Below w1.heap.size w1 wr)/\Hid (yV w1.heap.size wr vs ((d.take i).map fun x=>vT x.en)))
  case atStart=>exact ⟨0,rfl,by omega,by omega,hid (Below.refl _ _),hid (World.ownsRow_nil _ _ _ _)⟩
  case round =>
   obtain ⟨i,rfl,hi,hig,HB,HO⟩:=hrel;have HBW:=hid (HB1.out.trans (HB.out.mono HB1.out.size))
   by_cases hlt:i<d.length
   ·have HLT:=hid hlt;have hltz:(i:Int)<(d.length:Int):=by omega
    have hiz:(0:Int)<=(i:Int):=by omega
    obtain ⟨y,hy⟩:∃y,d[i]? = some y:=⟨_,List.getElem?_eq_getElem hlt⟩;obtain ⟨c0,c1,c2,c3,c4,c5,c6,c7,c8,c9⟩:=vF (zE.at_kept HAT.out HBW.out) i y hy;simp only [Nat.add_zero] at c0;have HMEM:=hid (List.mem_of_getElem? hy)
    have HTK:Hid ((d.take (i+1)).map (fun x=>vT x.en)=(d.take i).map (fun x=>vT x.en)++[vT y.en]):=hid (by
     obtain ⟨h1,h2⟩:=List.getElem?_eq_some_iff.1 hy;rw [<-h2,List.take_succ_eq_append_getElem h1,List.map_append];rfl)
    have hmy:=dD (List.all_eq_true.1 HALL.out y HMEM.out);have HLN:Hid (∀W,Below w.heap.size w W->Calls Tryz.prog 25 #[.agg (vE y)] W fun e w'=>e=.returned (tq (vT y.en))/\Below W.heap.size W w'):=hid fun W h=>zGL y W ((HD.out.each y HMEM.out).on h) (HV.out.on h) hmy.1 hmy.2.1
    have HB2:Hid (Below w.heap.size w (wr.alloc (.cells (vE y) 42))):=hid (HBW.out.alloc HBW.out.size _);have HB3:Hid (Below w1.heap.size w1 (wr.alloc (.cells (vE y) 42))):=hid (HB.out.alloc HB.out.size _);have hacl:((d.take i).map fun x=>vT x.en).length=i:=by rw [List.length_map,List.length_take];omega
    obtain ⟨acc,hacc⟩:∃acc,(d.take i).map (fun x=>vT x.en)=acc:=⟨_,rfl⟩;rw [hacc] at HO HTK hacl;have HO3:=hid (yV.on HO.out ((Below.refl _ wr).alloc (Nat.le_refl _) (.cells (vE y) 42)));obtain ⟨wd,hwd⟩:∃wd,vT y.en=wd:=⟨_,rfl⟩;rw [hwd] at HLN HTK;clear hy hmy hacc hwd;go_wp2_with fail;refine (HLN.out _ HB2.out).mono ?_;rintro e w4 ⟨rfl,hb4⟩;have HB4:=hid (HB3.out.trans (hb4.mono HB3.out.size));have hsz4:=HB4.out.size;have HO4:=hid (yV.on (yV.on HO3.out hb4) ((Below.refl _ w4).alloc (Nat.le_refl _) (.cells #[tq wd] 9)));clear hb4 c0 c1 c2 c3 c4 c5 c6 c7 c8 c9;go_wp2_with (at_builtin;refine wpList_append_own _ rfl _ _ 43 rfl w1.heap.size 9 i0 (tq ⟨#[]⟩) 1 16 Tryz.underlying43 HI.out hz0 hz1 hz2 rfl (by decide) _ _ _ rfl HO4.out _ 1 1 [tq wd] rfl rfl (by intro j u hj;match j,hj with|0,hj=>simp at hj;subst hj;simp [Addr.add]) (by intro u hu;simp at hu;subst hu;rfl) (by unfold maxLen;omega) (by omega) (by simp;omega) ?_;intro v4 w5 hown4 hg4 hnil4;have HO7:=hid hown4;have HG7:=hid hg4;clear hown4 hg4 hnil4);go_roundg (d.length-(i+1))
    case measure=>omega
    refine ⟨i+1,by go_num,HLT.out,Nat.le_refl _,hid ?_,hid (by rw [HTK.out];exact own_snoc HO7.out)⟩;have hb6:Below w1.heap.size w1 (w4.alloc (.cells #[tq wd] 9)):=HB4.out.alloc hsz4 _;exact hb6.grown HG7.out hb6.size (fun k hk=>(World.ownsRow.lt HO4.out k hk).1)
   ·have hltz:¬ (i:Int)<(d.length:Int):=by omega
    have htk:d.take i=d:=List.take_of_length_le (by omega);rw [htk] at HO;obtain ⟨ws,hws⟩:∃ws,d.map (fun x=>vT x.en)=ws:=⟨_,rfl⟩;have hwl:ws.length=d.length:=by rw [<-hws,List.length_map]
    have hwsz:∀l∈ws.map (·.data.toList),l.length<=600000:=fun l hl=>by
     obtain ⟨s,hs,rfl⟩:=List.mem_map.1 hl;rw [<-hws] at hs;obtain ⟨y,hy,rfl⟩:=List.mem_map.1 hs;have hp:=dD (List.all_eq_true.1 HALL.out y hy);have hex:=HD.out.each y hy;exact zD6 y.en hp.2.1 hex.t0 hex.t1
    have hjl:=fQ 600000 (ws.map (·.data.toList)) hwsz;rw [List.length_map] at hjl;have hjl2:ws.length * 600003<=16 * 600003:=Nat.mul_le_mul_right _ (by omega)
    have HJ3:Hid ((kN ws).size<=9600048):=hid (by
     have e:(kN ws).size=(Lib.join (ws.map (·.data.toList)) [32,59,32]).length:=rfl;omega)
    rw [hws] at HO
    have HPR:Hid (tK once (d.map Ex.en)=(if once=true then ⟨#[111,110,99,101,32]⟩ else ⟨#[]⟩)++kN ws):=hid (by
     unfold tK;rw [<-hws,List.map_map];rfl)
    obtain ⟨p4,cap4,hv4⟩:=tF HO.out;subst hv4
    have HJ:Hid (Calls Tryz.prog 26 #[sc p4 ws.length cap4,tq ⟨#[32,59,32]⟩] wr fun e w'=>e=.returned (tq (kN ws))/\Below wr.heap.size wr w'):=hid (by
     obtain ⟨bb,oo,cc,h1,h2,h3,h4⟩:=zCo HO.out (by intro q;rw [q] at hwl;simp at hwl;omega);injection h1 with a1 a2 a3
     subst a1 a3
     exact Tryz.strings_Join bb oo cap4 ws ⟨#[32,59,32]⟩ wr h4 h3 (by omega) h2 (by
      show (Lib.join (ws.map (·.data.toList)) [32,59,32]).length<=_
      omega))
    have hbx2:wr.heap[w.heap.size]? = some (.cells #[.bool once,sc (some (aa b off)) d.length cap] 25 (0,0)):=(HB.out.block _ (Array.getElem?_eq_some_iff.1 HBX1.out).1).trans HBX1.out;have HBX2:=hid hbx2;clear hbx2 htk hws hwl hwsz hjl hjl2;go_wp2_with fail;refine HJ.out.mono ?_;rintro e w2 ⟨rfl,hb2⟩;have HB9:=hid (HBW.out.trans (hb2.mono HBW.out.size));obtain ⟨q0,q1,_,_⟩:=zL ((hb2.block _ (Array.getElem?_eq_some_iff.1 HBX2.out).1).trans HBX2.out);have hj3:=HJ3.out;clear hb2
    cases once with
    | false =>
     have HPR2:Hid (tK false (d.map Ex.en)=kN ws):=hid (by
      rw [HPR.out];apply jY;rw [yR];rfl)
     go_wp2_with fail
     go_ret2
     refine ⟨?_,HB9.out⟩;show Ending.returned (.tuple #[tq (kN ws),ii 0])=_;rw [<-HPR2.out]
    | true =>
     have HPR2:Hid (tK true (d.map Ex.en)=⟨#[111,110,99,101,32]⟩++kN ws):=hid (by rw [HPR.out];rfl);go_wp2_with fail
     go_ret2
     refine ⟨?_,HB9.out⟩;show Ending.returned (.tuple #[tq (⟨#[111,110,99,101,32]⟩++kN ws),ii 0])=_;rw [<-HPR2.out]
end
section
open Go.RowKit Go.Lib
def uK (e:En) (p:Nat):List (List UInt8) :=
 if p=1 then if e.temp=⟨#[]⟩ then [] else [64::e.temp.data.toList]
 else if p=2 then [e.ka.data.toList++47::e.kb.data.toList]
 else if p=3 then [e.ka.data.toList]
 else if p=4 then if e.iff=0 then [] else [[105,102],yH e.iff.toNat]
 else if p=5 then zB (yM e.val)
 else if p=6 then [[63]]
 else if p=7 then zB (e.pred.map xG)
 else if p=8 then zB (e.eds.map xB)
 else if p=9 then [yH e.num.toNat]
 else [yH e.stamp.toNat]
theorem zAQ (ws:List ByteArray):(xT ws).data.toList=yB (zB ws):=by rw [wH];rfl
theorem mB {e:En} (h:nG e) (p:Nat) (h1:1<=p) (h2:p<=10):(vD e p).data.toList=yB (uK e p):=by
 have hp:p=1∨p=2∨p=3∨p=4∨p=5∨p=6∨p=7∨p=8∨p=9∨p=10:=by omega
 rcases hp with rfl|rfl|rfl|rfl|rfl|rfl|rfl|rfl|rfl|rfl
 ·show (if e.temp=⟨#[]⟩ then (⟨#[]⟩:ByteArray) else ⟨#[64]⟩++e.temp).data.toList=yB (if e.temp=⟨#[]⟩ then [] else [64::e.temp.data.toList])
  split
  ·rfl
  ·rw [xC,yR];rfl
 ·show (e.ka++⟨#[47]⟩++e.kb).data.toList=yB [e.ka.data.toList++47::e.kb.data.toList]
  rw [xC];exact zKe _ _
 ·show e.ka.data.toList=yB [e.ka.data.toList]
  rw [xC]
 ·show (if e.iff=0 then (⟨#[]⟩:ByteArray) else ⟨#[105,102,32]⟩++⟨(yH e.iff.toNat).toArray⟩).data.toList=yB (if e.iff=0 then [] else [[105,102],yH e.iff.toNat])
  split
  ·rfl
  ·rw [gQ,yR];rfl
 ·rfl
 ·show ([63]:List UInt8)=yB [[63]]
  rw [xC]
 ·show (zDG (wB e.pred)).data.toList=yB (zB (e.pred.map xG))
  have ha:wB e.pred=e.pred:=by unfold wB;rw [if_pos h.mayp,h.srt]
  rw [ha];exact zAQ _
 ·show (prE e.eds).data.toList=yB (zB (e.eds.map xB))
  unfold prE;rw [if_pos h.maye];exact zAQ _
 ·show yH e.num.toNat=yB [yH e.num.toNat]
  rw [xC]
 ·show yH e.stamp.toNat=yB [yH e.stamp.toNat]
  rw [xC]
theorem zFZ {w:List (List UInt8)} (h:∀x∈w,x≠[]) (q:yB w=[]):w=[]:=by
 cases w with
 | nil=>rfl
 | cons x w =>
  exfalso
  by_cases hw:w=[]
  ·subst hw;rw [xC] at q;exact h x (by simp) q
  ·rw [uT _ hw] at q;simp at q
theorem mW {e:En} (h:nG e) (p:Nat) (h1:1<=p) (h2:p<=10):∀x∈uK e p,x≠[]:=by
 have hp:p=1∨p=2∨p=3∨p=4∨p=5∨p=6∨p=7∨p=8∨p=9∨p=10:=by omega
 rcases hp with rfl|rfl|rfl|rfl|rfl|rfl|rfl|rfl|rfl|rfl
 ·show ∀x∈(if e.temp=⟨#[]⟩ then [] else [64::e.temp.data.toList]),x≠[]
  split
  ·intro x hx;cases hx
  ·intro x hx;rw [List.mem_singleton] at hx;subst hx;simp
 ·intro x hx;have:x=e.ka.data.toList++47::e.kb.data.toList:=List.mem_singleton.1 hx;subst this;simp
 ·intro x hx;have:x=e.ka.data.toList:=List.mem_singleton.1 hx;subst this;intro q;have hk:=h.key;unfold xQ at hk
  split at hk
  ·simp only [Bool.and_eq_true] at hk;rw [q] at hk;exact absurd hk.2 (by decide)
  ·have:=(gJ hk).1;rw [q] at this;exact absurd this (by decide)
 ·show ∀x∈(if e.iff=0 then [] else [[105,102],yH e.iff.toNat]),x≠[]
  split
  ·intro x hx;cases hx
  ·intro x hx
   rcases List.mem_cons.1 hx with rfl|hx
   ·decide
   ·rw [List.mem_singleton] at hx;subst hx;exact nW _
 ·intro x hx q;have:=(gZ h.mayv x hx).1;rw [q] at this;simp at this
 ·intro x hx;have:x=[63]:=List.mem_singleton.1 hx;subst this;decide
 ·intro x hx q;have:=(zAi h.mayp x hx).1;rw [q] at this;simp at this
 ·intro x hx q;have:=(cQ h.maye x hx).1;rw [q] at this;simp at this
 ·intro x hx;have:x=yH e.num.toNat:=List.mem_singleton.1 hx;subst this;exact nW _
 ·intro x hx;have:x=yH e.stamp.toNat:=List.mem_singleton.1 hx;subst this;exact nW _
theorem zEd {e:En} (h:nG e):∀ps:List Nat,(∀p∈ps,1<=p/\p<=10)->∀a:List (List UInt8),a≠[] ->
  yB (a++(pcs e ps).map (·.data.toList))=yB (a++ps.flatMap (uK e))
 | [],_,a,_=>by simp [pcs]
 | p::ps,hp,a,ha=>by
  obtain ⟨h1,h2⟩:=hp p (by simp);have hw:=mB h p h1 h2;have ih:=zEd h ps (fun q hq=>hp q (by simp [hq]))
  have hcons:pcs e (p::ps)=(if vD e p=⟨#[]⟩ then [] else [vD e p])++pcs e ps:=by
   unfold pcs
   by_cases hz:vD e p=⟨#[]⟩<;>simp [hz]
  rw [hcons,List.flatMap_cons]
  by_cases hz:vD e p=⟨#[]⟩
  ·have hn:uK e p=[]:=zFZ (mW h p h1 h2) (by rw [<-hw,hz]);rw [if_pos hz,hn,List.nil_append,List.nil_append];exact ih a ha
  ·have hne:uK e p≠[]:=fun q=>hz (fY (by rw [hw,q];rfl))
   rw [if_neg hz,List.map_append,List.map_cons,List.map_nil,<-List.append_assoc,<-List.append_assoc];have h3:=ih (a++uK e p) (by simp [ha]);rw [<-h3]
   have h4:yB (a++[(vD e p).data.toList])=yB (a++uK e p):=by
    rw [uE a ha (by simp),uE a ha hne,xC,hw]
   by_cases hq:(pcs e ps).map (·.data.toList)=[]
   ·rw [hq,List.append_nil,List.append_nil,h4]
   ·rw [uE _ (by simp) hq,uE _ (by simp [ha]) hq,h4]
theorem zMQ {i:Int} {A:List (List UInt8)} (h:¬ i=0->0<=i/\i<=999999999):(if 0<i then A else [])=if i=0 then [] else A:=by
 by_cases h0:i=0
 ·rw [if_pos h0,if_neg (by omega)]
 ·rw [if_neg h0,if_pos (by have:=h h0;omega)]
theorem zEh {e:En} (h:nG e):xS e=xP e.kind.toNat::(zN e.kind.toNat).flatMap (uK e):=by
 obtain ⟨h1,h2,h3,h4,h5,h6,h7,h8,h9,h10,h11,h12,h13,h14⟩:=h;obtain ⟨k,t,a,b,i,v,d,p,s,n⟩:=e;simp only at h1 h2;have hk:k=1∨k=2∨k=3∨k=4∨k=5∨k=6∨k=7∨k=8∨k=9∨k=10∨k=11∨k=12:=by omega
 have hkb:∀{a b:ByteArray},tR a b=true->b≠⟨#[]⟩:=fun hk q=>by
  have:=(gJ hk).2;rw [q] at this;exact absurd this (by decide)
 rcases hk with rfl|rfl|rfl|rfl|rfl|rfl|rfl|rfl|rfl|rfl|rfl|rfl
 all_goals
  simp [xQ,yQ] at h3 h4 h5 h6 h7 h8 h10 h14
  simp_all [xS,pH,sR,pG,zN,uK,zB,yM]
  try exact hkb h3
  try exact ⟨hkb h3,zMQ h5⟩
theorem zDy {e:En} (h:nG e):(vT e).data.toList=yB (xS e):=by
 have hs:∀p∈zN e.kind.toNat,1<=p/\p<=10:=fun p hp=>by
  obtain ⟨i,hi⟩:=List.getElem?_of_mem hp;exact nA _ i p hi
 have hj:=zEd h (zN e.kind.toNat) hs [xP e.kind.toNat] (by simp);rw [zEh h];show yB ((⟨(xP e.kind.toNat).toArray⟩::pcs e (zN e.kind.toNat)).map (·.L))=_;rw [List.map_cons];exact hj
theorem zHe (x:List UInt8) {w:List (List UInt8)} (h:w≠[]):Lib.join (x::w) [32,59,32]=x++([32,59,32]++Lib.join w [32,59,32]):=by
 cases w with
 | nil=>exact absurd rfl h
 | cons y w=>simp [Lib.join,List.intercalate]
theorem zA1 {l:List En} (h:l≠[]):xF l≠[]:=by
 match l with
 | []=>exact absurd rfl h
 | [e]=>simp [xF,xS]
 | e::f::l=>simp [xF]
theorem zFP:∀{es:List En},es≠[]->(∀e∈es,nG e)->Lib.join ((es.map vT).map (·.data.toList)) [32,59,32]=yB (xF es)
 | [],h,_=>absurd rfl h
 | [e],_,h=>by
  simp only [List.map_cons,List.map_nil,Lib.join_one,xF];exact zDy (h e (by simp))
 | e::f::l,_,h=>by
  have ih:=zFP (es:=f::l) (by simp) fun g hg=>h g (by simp [hg])
  rw [List.map_cons,List.map_cons,zHe _ (by simp),ih,zDy (h e (by simp))];simp only [xF];have hne:xS e≠[]:=by simp [xS]
  rw [uE _ hne (by simp),uT _ (zA1 (by simp))];rfl
theorem zE6 {once:Bool} {es:List En} (h:uD es=true):(tK once es).data.toList=zAJ once es:=by
 have h':=h;unfold uD at h';simp only [Bool.and_eq_true,decide_eq_true_eq,List.all_eq_true] at h';have hne:es≠[]:=List.length_pos_iff.1 h'.1.1;have hl:=zFP hne fun e he=>xW (h'.2 e he)
 unfold tK zAJ qK;rw [yR];have hj:(kN (es.map vT)).data.toList=yB (xF es):=hl;rw [hj]
 cases once with
 | false=>rfl
 | true =>
  show [111,110,99,101,32]++yB (xF es)=yB ([sG]++xF es)
  rw [uE _ (by simp) (zA1 hne),xC];rfl
theorem zMi {once:Bool} {es:List En} (h:uD es=true) (hs:∀e∈es,0<=e.stamp/\e.stamp<=18446744073709551615):opR (tK once es).data.toList=some (once,es):=by
 rw [zHG,zE6 h,zHm h,zNF h hs]
theorem cN (d:List Ex):uN d=uD (d.map Ex.en):=by
 unfold uN uD;rw [List.length_map,List.all_map]
 congr 1
 apply List.all_congr rfl
 intro x;exact zHq x
end
section
open Go.RowKit Go.Lib
def exT:ByteArray:=⟨#[111,110,99,101,32,117,112,100,97,116,101,32,80,97,116,105,101,110,116,47,112,49,32,105,102,32,50,32,110,97,109,101,61,66,111,32,59,32,115,101,97,114,99,104,32,80,97,116,105,101,110,116,32,110,97,109,101,94,65]⟩
def exU:En:=⟨3,⟨#[]⟩,⟨#[80,97,116,105,101,110,116]⟩,⟨#[112,49]⟩,2,[(⟨#[110,97,109,101]⟩,[⟨#[66,111]⟩])],[],[],0,0⟩
def exS:En:=⟨8,⟨#[]⟩,⟨#[80,97,116,105,101,110,116]⟩,⟨#[]⟩,0,[],[],[(⟨#[110,97,109,101]⟩,3,⟨#[65]⟩)],0,0⟩
theorem zGq:uD [exU,exS]=true:=by kernel_rfl
theorem zNq:yH 2=[50]:=by rw [tD (by omega)];rfl
theorem zNJ:zAJ true [exU,exS]=exT.data.toList:=by
 have h1:xS exU=[[117,112,100,97,116,101],[80,97,116,105,101,110,116,47,112,49],[105,102],[50],[110,97,109,101,61,66,111]]:=by
  have hr:xS exU=xP 3::(([]:List (List UInt8))++(([]:List (List UInt8))++pG exU::([[105,102],yH 2]++(zB (yM exU.val)++(zB (exU.eds.map xB)++zB (exU.pred.map xG)))))):=by rfl
  rw [hr,zNq]
  decide
 have h2:xS exS=[[115,101,97,114,99,104],[80,97,116,105,101,110,116],[110,97,109,101,94,65]]:=by kernel_rfl
 unfold zAJ qK;simp only [xF,h1,h2]
 decide
theorem zEj:(tK true [exU,exS])=exT:=jY ((zE6 zGq).trans zNJ)
theorem zI1:opR exT.data.toList=some (true,[exU,exS]):=by
 rw [<-zEj]
 exact zMi zGq (fun e he=>by
  rcases List.mem_cons.1 he with rfl|he
  ·exact ⟨by decide,by decide⟩
  ·rw [List.mem_singleton] at he;subst he;exact ⟨by decide,by decide⟩)
theorem zMy:opR []=none:=by rw [zHG];rfl
theorem zBc {n:Nat} {w:World} {v:Value} {d:List Ex} (h:KEx.Own n w v d) (hq:∀x∈d,xI n x w) (hl:d.length<=4294967000):nP w v d :=
 ⟨zE.own_is h,fun x hx=>(hq x hx).ex,hl⟩
theorem zFe (w:World) (hv:wQ w):Calls Tryz.prog 5 #[] w fun e w'=>e=.returned (.bool true)/\Below w.heap.size w w':=by
 have HV:=hid hv
 have HP1:Hid (Calls Tryz.prog 6 #[tq ⟨#[111,110,99,101,32,117,112,100,97,116,101,32,80,97,116,105,101,110,116,47,112,49,32,105,102,32,50,32,110,97,109,101,61,66,111,32,59,32,115,101,97,114,99,104,32,80,97,116,105,101,110,116,32,110,97,109,101,94,65]⟩] w fun e w'=>∃v d,e=.returned (.tuple #[.agg #[.bool true,v],ii 0])/\nP w' v d/\d.map Ex.en=[exU,exS]/\Below w.heap.size w w'):=hid ((kS exT w hv (by decide)).mono (by
  rintro e w' ⟨⟨once,v,d,c,rfl,ho,hq,hc⟩,hb⟩
  rcases hc with ⟨rfl,h⟩|⟨_,_,_,h⟩
  ·rw [zI1] at h
   have h2:=Option.some.inj h
   have h3:true=once:=congrArg Prod.fst h2
   have h4:[exU,exS]=d.map Ex.en:=congrArg Prod.snd h2
   subst h3
   have hl:d.length=2:=by have:=congrArg List.length h4;simpa using this.symm
   exact ⟨v,d,rfl,zBc ho hq (by omega),h4.symm,hb⟩
  ·rw [zI1] at h;cases h))
 have HP0:Hid (∀W,Below w.heap.size w W->Calls Tryz.prog 6 #[tq ⟨#[]⟩] W fun e w'=>∃o pv nv cv,e=.returned (.tuple #[.agg #[.bool o,sc pv nv cv],ii 4])/\Below W.heap.size W w'):=hid fun W hW=>(kS ⟨#[]⟩ W (HV.out.on hW) (by decide)).mono (by
  rintro e w' ⟨⟨once,v,d,c,rfl,ho,hq,hc⟩,hb⟩
  rcases hc with ⟨_,h⟩|⟨rfl,_,_,h⟩
  ·have h':opR []=some (once,d.map Ex.en):=h
   rw [zMy] at h';cases h'
  ·obtain ⟨pv,cv,rfl⟩:=zE.own_shape ho
   exact ⟨once,pv,_,cv,rfl,hb⟩)
 have HM0:Hid (∀W,Calls Tryz.prog 12 #[.agg #[.bool false,sc none 0 0]] W fun e w'=>e=.returned (.bool false)/\Below W.heap.size W w'):=hid fun W=>(bQ false (sc none 0 0) [] W ⟨⟨none,0,rfl,.inl rfl⟩,(fun x hx=>by cases hx),by decide⟩)
 clear hv
 go_enter Tryz.func5,Tryz.ntmps5
 go_wp2_with fail
 refine HP1.out.mono ?_
 rintro e w1 ⟨v,d,rfl,hd,hes,hb1⟩
 obtain ⟨x,y,rfl⟩:∃x y,d=[x,y]:=by
  have hl:d.length=2:=by have:=congrArg List.length hes;simpa using this
  match d,hl with
  | [x,y],_=>exact ⟨x,y,rfl⟩
 have hes2:[x.en,y.en]=[exU,exS]:=hes
 have hx:x.en=exU:=by injection hes2
 have hy:y.en=exS:=by injection hes2 with _ h2;injection h2
 clear hes2
 obtain ⟨a,cap,rfl,hrow⟩:=hd.row
 obtain ⟨b,off,rfl,hat⟩:∃b off,a=some (aa b off)/\KEx.At w1 b off [x,y]:=by
  rcases hrow with h|⟨b,off,h1,h2⟩
  ·cases h
  ·exact ⟨b,off,h1,h2⟩
 have hxi:x.iff=2:=congrArg En.iff hx
 have hxk:x.kind=3:=congrArg En.kind hx
 have hyk:y.kind=8:=congrArg En.kind hy
 have HIF:=hid hxi
 have HXK:=hid hxk
 have HYK:=hid hyk
 have HMR:Hid (uN [x,y]=true):=hid (by rw [cN,hes];exact zGq)
 have HPT:Hid (tK true ([x,y].map Ex.en)=exT):=hid (by rw [hes];exact zEj)
 have HD:=hid hd
 have HAT:=hid hat
 have HB1:=hid hb1
 have HB2:Hid (Below w1.heap.size w1 (w1.alloc (.cells #[.bool true,sc (some (aa b off)) 2 cap] 25))):=hid ((Below.refl _ _).alloc (Nat.le_refl _) _)
 have HBX:Hid ((w1.alloc (.cells #[.bool true,sc (some (aa b off)) 2 cap] 25)).heap[w1.heap.size]? = some (.cells #[.bool true,sc (some (aa b off)) 2 cap] 25 (0,0))):=hid (heap_alloc_new w1 _)
 have HPR:Hid (∀W,Below w1.heap.size w1 W->Calls Tryz.prog 10 #[.agg #[.bool true,sc (some (aa b off)) 2 cap]] W fun e w'=>e=.returned (.tuple #[tq exT,ii 0])/\Below W.heap.size W w'):=hid fun W hW=>by
  have h:=zAL true (sc (some (aa b off)) 2 cap) [x,y] W (HD.out.on hW) (HV.out.on (HB1.out.trans (hW.mono HB1.out.size)))
  rw [HMR.out,if_pos rfl,if_pos rfl,HPT.out] at h
  exact h
 have HMY:Hid (∀W,Below w1.heap.size w1 W->Calls Tryz.prog 12 #[.agg #[.bool true,sc (some (aa b off)) 2 cap]] W fun e w'=>e=.returned (.bool true)/\Below W.heap.size W w'):=hid fun W hW=>by
  have h:=bQ true (sc (some (aa b off)) 2 cap) [x,y] W (HD.out.on hW)
  rw [HMR.out] at h
  exact h
 have HEQ:Hid (∀W,Below w1.heap.size w1 W->Calls Tryz.prog 13 #[.agg #[.bool true,sc (some (aa b off)) 2 cap],.agg #[.bool true,sc (some (aa b off)) 2 cap]] W fun e w'=>e=.returned (.bool true)/\Below W.heap.size W w'):=hid fun W hW=>by
  have h:=zEM true true (sc (some (aa b off)) 2 cap) (sc (some (aa b off)) 2 cap) [x,y] [x,y] W (HD.out.on hW) (HD.out.on hW)
  rw [decide_eq_true (⟨rfl,rfl⟩:true=true/\[x,y].map Ex.en=[x,y].map Ex.en)] at h
  exact h
 have HW1:Hid (∀W,Calls Tryz.prog 14 #[.agg (vE x)] W fun e w'=>e=.returned (.bool true)/\Below W.heap.size W w'):=hid fun W=>by
  have h:=cI x W
  rw [HXK.out] at h
  exact h
 have HW2:Hid (∀W,Calls Tryz.prog 14 #[.agg (vE y)] W fun e w'=>e=.returned (.bool false)/\Below W.heap.size W w'):=hid fun W=>by
  have h:=cI y W
  rw [HYK.out] at h
  exact h
 have HCX:Hid (∀W,Below w1.heap.size w1 W->W.cell? (aa b (off+0))=some (ii x.kind)/\W.cell? (aa b (off+1))=some (tq x.temp)/\W.cell? (aa b (off+2))=some (tq x.ka)/\W.cell? (aa b (off+3))=some (tq x.kb)/\W.cell? (aa b (off+4))=some (ii x.iff)/\W.cell? (aa b (off+5))=some (sc x.vp x.vo.length x.vc)/\W.cell? (aa b (off+6))=some (sc x.ep x.eo.length x.ec)/\W.cell? (aa b (off+7))=some (sc x.pp x.po.length x.pc)/\W.cell? (aa b (off+8))=some (iu x.stamp)/\W.cell? (aa b (off+9))=some (ii x.num)):=hid fun W hW=>by
  have h:=vF (zE.at_kept HAT.out hW) 0 x rfl
  simpa using h
 have HCY:Hid (∀W,Below w1.heap.size w1 W->W.cell? (aa b (off+10+0))=some (ii y.kind)/\W.cell? (aa b (off+10+1))=some (tq y.temp)/\W.cell? (aa b (off+10+2))=some (tq y.ka)/\W.cell? (aa b (off+10+3))=some (tq y.kb)/\W.cell? (aa b (off+10+4))=some (ii y.iff)/\W.cell? (aa b (off+10+5))=some (sc y.vp y.vo.length y.vc)/\W.cell? (aa b (off+10+6))=some (sc y.ep y.eo.length y.ec)/\W.cell? (aa b (off+10+7))=some (sc y.pp y.po.length y.pc)/\W.cell? (aa b (off+10+8))=some (iu y.stamp)/\W.cell? (aa b (off+10+9))=some (ii y.num)):=hid fun W hW=>by
  have h:=vF (zE.at_kept HAT.out hW) 1 y rfl
  simpa using h
 clear hd hes hrow hat hx hy hxi hxk hyk hb1
 go_wp2_with fail
 refine (HPR.out _ HB2.out).mono ?_
 rintro e w2 ⟨rfl,hb2⟩
 have HB3:=hid (HB2.out.trans (hb2.mono HB2.out.size))
 have HX2:=hid ((hb2.block _ (by simp)).trans HBX.out)
 clear hb2
 go_wp2_with fail
 refine (HP0.out w2 (HB1.out.trans (HB3.out.mono HB1.out.size))).mono ?_
 rintro e w3 ⟨o0,pv,nv,cv,rfl,hb3⟩
 have hlt2:w1.heap.size<w2.heap.size:=(Array.getElem?_eq_some_iff.1 HX2.out).1
 have hal3:=(Below.refl w3.heap.size w3).alloc (Nat.le_refl _) (.cells #[.bool o0,sc pv nv cv] 25)
 have HB4:Hid (Below w1.heap.size w1 (w3.alloc (.cells #[.bool o0,sc pv nv cv] 25))):=hid ((HB3.out.trans (hb3.mono HB3.out.size)).trans (hal3.mono (HB3.out.trans (hb3.mono HB3.out.size)).size))
 have HX3:Hid ((w3.alloc (.cells #[.bool o0,sc pv nv cv] 25)).heap[w1.heap.size]? = some (.cells #[.bool true,sc (some (aa b off)) 2 cap] 25 (0,0))):=hid ((hal3.block _ (Nat.lt_of_lt_of_le hlt2 hb3.size)).trans ((hb3.block _ hlt2).trans HX2.out))
 clear hb3 hal3
 obtain ⟨WA,hWA⟩:∃WA,w3.alloc (.cells #[.bool o0,sc pv nv cv] 25)=WA:=⟨_,rfl⟩
 rw [hWA] at HB4 HX3
 have HWA:=hid hWA
 obtain ⟨q0,q1,_,_⟩:=zL HX3.out
 obtain ⟨p0,p1,p2,p3,p4,p5,p6,p7,p8,p9⟩:=HCX.out WA HB4.out
 have p4':=p4
 rw [HIF.out] at p4'
 clear p4
 have hTq:(exT.toList==[111,110,99,101,32,117,112,100,97,116,101,32,80,97,116,105,101,110,116,47,112,49,32,105,102,32,50,32,110,97,109,101,61,66,111,32,59,32,115,101,97,114,99,104,32,80,97,116,105,101,110,116,32,110,97,109,101,94,65])=true:=by rw [toList_data];decide
 go_upto_region 4 with fail
 try rw [hWA]
 go_wp2_with fail
 refine (HMY.out WA HB4.out).mono ?_
 rintro e w5 ⟨rfl,hb5⟩
 have HB5:=hid (HB4.out.trans (hb5.mono HB4.out.size))
 have HX5:=hid ((hb5.block _ (Array.getElem?_eq_some_iff.1 HX3.out).1).trans HX3.out)
 clear hb5
 obtain ⟨r50,r51,_,_⟩:=zL HX5.out
 go_wp2_with fail
 refine (HM0.out w5).mono ?_
 rintro e w6 ⟨rfl,hb6⟩
 have HB6:=hid (HB5.out.trans (hb6.mono HB5.out.size))
 have HX6:=hid ((hb6.block _ (Array.getElem?_eq_some_iff.1 HX5.out).1).trans HX5.out)
 clear hb6
 obtain ⟨r60,r61,_,_⟩:=zL HX6.out
 go_wp2_with fail
 refine (HEQ.out w6 HB6.out).mono ?_
 rintro e w7 ⟨rfl,hb7⟩
 have HB7:=hid (HB6.out.trans (hb7.mono HB6.out.size))
 have HX7:=hid ((hb7.block _ (Array.getElem?_eq_some_iff.1 HX6.out).1).trans HX6.out)
 clear hb7
 obtain ⟨r70,r71,_,_⟩:=zL HX7.out
 obtain ⟨s0,s1,s2,s3,s4,s5,s6,s7,s8,s9⟩:=HCX.out w7 HB7.out
 simp only [Nat.add_zero] at s0
 go_wp2_with fail
 refine (HW1.out w7).mono ?_
 rintro e w8 ⟨rfl,hb8⟩
 have HB8:=hid (HB7.out.trans (hb8.mono HB7.out.size))
 have HX8:=hid ((hb8.block _ (Array.getElem?_eq_some_iff.1 HX7.out).1).trans HX7.out)
 clear hb8
 obtain ⟨r80,r81,_,_⟩:=zL HX8.out
 obtain ⟨t0,t1,t2,t3,t4,t5,t6,t7,t8,t9⟩:=HCY.out w8 HB8.out
 try simp only [Nat.add_zero] at t0
 go_wp2_with fail
 refine (HW2.out w8).mono ?_
 rintro e w9 ⟨rfl,hb9⟩
 have HB9:=hid (HB8.out.trans (hb9.mono HB8.out.size))
 clear hb9
 go_wp2_with fail
 go_ret
 exact ⟨rfl,HB1.out.trans (HB9.out.mono HB1.out.size)⟩
end
section
open Go.RowKit Go.Lib
theorem zHC {n:Nat} {w:World} {v:Value} {ts:List ByteArray} (h:yV n w v ts):∃p cap,v=.slice p ts.length cap/\ts.length<=cap:=by
 rcases h.2 with ⟨hv,h0⟩|⟨g,cap,cur,hv,hc,hg,hcap,_⟩
 ·exact ⟨none,0,by rw [hv,h0],by omega⟩
 ·exact ⟨_,_,hv,hcap⟩
theorem zMa {n:Nat} {w w':World} {p:Option Addr} {ws:List ByteArray} (h:wJ w p ws) (hn:w.heap.size=n) (hb:Below n w w'):wJ w' p ws:=by
 subst hn;exact fT h hb
theorem zAg {w W:World} {l:List UInt8} (h:opR l=none) (hb:Below w.heap.size w W):bI w l (.returned (.tuple #[.agg #[.bool false,.slice none 0 0],.int .i64 4])) W :=
 ⟨⟨false,sc none 0 0,[],4,rfl,KEx.own_nil _ _,(fun z h=>by cases h),.inr ⟨rfl,rfl,rfl,h⟩⟩,hb⟩
theorem zDx {w W:World} {N:Nat} (hN:w.heap.size=N) (h:W.heap[N]? = some (.cells #[.bool false,.slice none 0 0] 25 (0,0))) (hb:Below N w W) :
  ∀W',(W.setCell ⟨N,0,none⟩ (.bool false)).setCell ⟨N,1,none⟩ (.slice none 0 0)=W'->W'.cell? ⟨N,0,none⟩=some (.bool false)/\W'.cell? ⟨N,1,none⟩=some (.slice none 0 0)/\Below w.heap.size w W':=by
 intro W' hW;subst hW;have h1:=heap_setCell_same _ N 1 _ _ (sc none 0 0) (heap_setCell_same _ N 0 _ _ (.bool false) h);rw [hN];exact ⟨by rw [Lib.cell_of_heap h1];rfl,by rw [Lib.cell_of_heap h1];rfl,(hb.setCell (p:=(aa N 0)) (Nat.le_refl _) _).setCell (p:=(aa N 1)) (Nat.le_refl _) _⟩
theorem tV (us:List ByteArray):(zB us).length=us.length:=by unfold zB;simp
theorem zEs {w1 W:World} {N Q:Nat} {once:Bool} {ls:List (List UInt8)} (hr:W.heap[N]? = some (.cells #[.bool false,.slice none 0 0] 25 (0,0))) (hx:W.heap[Q]? = some (.cells #[.bool once,.slice none 0 0] 25 (0,0))) (hb:Below Q w1 W):zA7 w1 N Q once ls 0 0 [] none 0 W :=
 ⟨hr,hx,KEx.own_nil _ _,(fun x hx=>by cases hx),hb,(Array.getElem?_eq_some_iff.1 hx).1,by decide,[],rfl,Or.inl ⟨by omega,by omega,rfl,fun x hx=>by simp at hx⟩⟩
section
variable {W3 wr:World} {N Q f i:Nat} {once:Bool} {us:List ByteArray} {out:List Ex} {p:Option Addr} {c:Nat}
theorem zO5 (h:zA7 W3 N Q once (zB us) f i out p c wr) (hB:(match us[i]? with|some x=>decide (x.data.toList≠[59])|none=>false)=true):i+1<=us.length/\zA7 W3 N Q once (zB us) f (i+1) out p c wr:=by
 cases hx:us[i]? with
 | none=>rw [hx] at hB;cases hB
 | some x =>
  rw [hx] at hB;have hne:x.L≠[59]:=of_decide_eq_true hB;have hlt:i<us.length:=(List.getElem?_eq_some_iff.1 hx).1;have hl:(zB us)[i]? = some x.L:=by unfold zB;rw [List.getElem?_map,hx];rfl
  refine ⟨hlt,{ h with cut:=?_ }⟩;obtain ⟨pre,hp,⟨h1,h2,h3,h4⟩|⟨h1,_⟩⟩:=h.cut
  ·exact ⟨pre,hp,Or.inl ⟨by rw [tV];omega,by omega,h3,(zEo h2 hl h4).1 hne⟩⟩
  ·rw [tV] at h1;omega
theorem zNt (h:zA7 W3 N Q once (zB us) f i out p c wr) (hB:(match us[i]? with|some x=>decide (x.data.toList≠[59])|none=>false)=false) (hi:i<=us.length) :
  ∃pre post,zS pre=some (out.map Ex.en)/\zW (zB us)=pre++((zB us).drop f).take (i-f)::post/\((i+1<=us.length/\post=zW ((zB us).drop (i+1)))∨(i=us.length/\post=[])):=by
 obtain ⟨pre,hp,⟨h1,h2,h3,h4⟩|⟨h1,_⟩⟩:=h.cut
 ·cases hx:us[i]? with
  | none =>
   have hge:us.length<=i:=by rw [List.getElem?_eq_none_iff] at hx;exact hx
   obtain rfl:i=us.length:=by omega
   refine ⟨pre,[],hp,?_,Or.inr ⟨rfl,rfl⟩⟩;rw [h3];have hl:=tV us;have:=zKw (ls:=zB us) (f:=f) (by rw [hl];exact h4);rw [hl] at this;rw [this]
  | some x =>
   rw [hx] at hB;have he:x.data.toList=[59]:=by simpa using hB
   have hlt:i<us.length:=(List.getElem?_eq_some_iff.1 hx).1;have hl:(zB us)[i]? = some x.data.toList:=by unfold zB;rw [List.getElem?_map,hx];rfl
   exact ⟨pre,_,hp,by rw [h3,(zEo h2 hl h4).2 he],Or.inl ⟨hlt,rfl⟩⟩
 ·rw [tV] at h1;omega
theorem zMh {W':World} {y:Ex} {p':Option Addr} {c':Nat} (hs:∃pre post,zS pre=some (out.map Ex.en)/\zW (zB us)=pre++((zB us).drop f).take (i-f)::post/\((i+1<=us.length/\post=zW ((zB us).drop (i+1)))∨(i=us.length/\post=[])))
  (he:xZ (((zB us).drop f).take (i-f))=some y.en) (hr:W'.heap[N]? = some (.cells #[.bool false,.slice none 0 0] 25 (0,0))) (hx:W'.heap[Q]? = some (.cells #[.bool once,.slice p' (out++[y]).length c'] 25 (0,0)))
  (ho:KEx.Own (Q+1) W' (.slice p' (out++[y]).length c') (out++[y])) (hq:∀x∈out++[y],xI (Q+1) x W') (hb:Below Q W3 W') (hf:(out++[y]).length<=16):zA7 W3 N Q once (zB us) (i+1) (i+1) (out++[y]) p' c' W':=by
 refine ⟨hr,hx,ho,hq,hb,(Array.getElem?_eq_some_iff.1 hx).1,hf,?_⟩;obtain ⟨pre,post,h1,h2,h3⟩:=hs;refine ⟨pre++[((zB us).drop f).take (i-f)],?_,?_⟩
 ·rw [jU,h1,Option.bind_some];show ((xZ _).bind fun e=>(zS []).map (e :: ·)).map _=_;rw [he];simp [zS]
 ·rcases h3 with ⟨h4,h5⟩|⟨h4,h5⟩
  ·refine Or.inl ⟨by rw [tV];exact h4,Nat.le_refl _,?_,fun x hx=>by rw [Nat.sub_self,List.take_zero] at hx;cases hx⟩;rw [h2,h5,List.append_assoc];rfl
  ·refine Or.inr ⟨by rw [tV,h4],?_⟩;rw [h2,h5]
theorem zLZ (hs:∃pre post,zS pre=some (out.map Ex.en)/\zW (zB us)=pre++((zB us).drop f).take (i-f)::post/\((i+1<=us.length/\post=zW ((zB us).drop (i+1)))∨(i=us.length/\post=[])))
  (he:xZ (((zB us).drop f).take (i-f))=none∨16<out.length+1):zAu (zS (zW (zB us)))=none:=by
 obtain ⟨pre,post,h1,h2,_⟩:=hs
 rcases he with he|he
 ·exact zHr h2 he
 ·refine zJM (pre:=pre++[((zB us).drop f).take (i-f)]) (post:=post) (by rw [h2,List.append_assoc];rfl) ?_;have:=pL h1;rw [List.length_map] at this;rw [List.length_append,<-this];exact he
theorem zMt (h:zA7 W3 N Q once (zB us) f i out p c wr) (hi:us.length<i):zS (zW (zB us))=some (out.map Ex.en):=by
 obtain ⟨pre,hp,⟨h1,_⟩|⟨_,h2⟩⟩:=h.cut
 ·rw [tV] at h1;omega
 ·rw [h2];exact hp
end
theorem zDz (s:ByteArray) (w:World) (hs:s.size<=500000000) :
  Calls Tryz.prog 7 #[.string s] w fun e w'=>bI w s.data.toList e w':=by
 obtain ⟨i0,hi0,hz0,hz1,hz2⟩:=info_parts Tryz.infoEnt
 have HI:=hid hi0
 have HWD:=hid fun W=>zHS s W (by omega)
 obtain ⟨N,hN⟩:∃N,w.heap.size=N:=⟨_,rfl⟩
 obtain ⟨W1,hW1⟩:∃W1,w.alloc (.cells #[.bool false,sc none 0 0] 25)=W1:=⟨_,rfl⟩
 have HB1:Hid (Below w.heap.size w W1):=hid (by rw [<-hW1];exact (Below.refl _ _).alloc (Nat.le_refl _) _)
 have HZ1:Hid (W1.heap[w.heap.size]? = some (.cells #[.bool false,sc none 0 0] 25 (0,0))):=hid (by rw [<-hW1];exact heap_alloc_new w _)
 rw [hN] at HB1 HZ1
 have HN:=hid hN
 clear hi0
 go_enter Tryz.func7,Tryz.ntmps7
 go_wp2_with fail
 try rw [hW1,hN]
 clear hW1
 refine (HWD.out _).mono ?_
 rintro e w1 ⟨⟨v,ws,rfl,hown,hws,hlen,hsz⟩,hb1⟩
 obtain ⟨pw,cw,rfl,hcw⟩:=zHC hown
 have htx:=yV.txtAt hown
 have hl1:ws.length<=500000001:=by have e1:s.data.toList.length=s.size:=rfl;omega
 have hsz2:∀x∈ws,x.size<=1000000000000:=fun x hx=>by have e1:s.data.toList.length=s.size:=rfl;have:=hsz x hx;omega
 obtain ⟨Q,hQ⟩:∃Q,w1.heap.size=Q:=⟨_,rfl⟩
 obtain ⟨W2,hW2⟩:∃W2,w1.alloc (.cells #[.bool false,sc none 0 0] 25)=W2:=⟨_,rfl⟩
 have hb2:Below w1.heap.size w1 W2:=by rw [<-hW2];exact (Below.refl _ _).alloc (Nat.le_refl _) _
 have HX2:Hid (W2.heap[Q]? = some (.cells #[.bool false,sc none 0 0] 25 (0,0))):=hid (by rw [<-hW2,<-hQ];exact heap_alloc_new w1 _)
 have hNW:N<W1.heap.size:=(Array.getElem?_eq_some_iff.1 HZ1.out).1
 have HB2:Hid (Below N w w1):=hid (HB1.out.trans (hb1.mono (Nat.le_of_lt hNW)))
 have HZ2:Hid (w1.heap[N]? = some (.cells #[.bool false,sc none 0 0] 25 (0,0))):=hid ((hb1.block N hNW).trans HZ1.out)
 have hNQ:N<Q:=by rw [<-hQ];exact (Array.getElem?_eq_some_iff.1 HZ2.out).1
 have HTX:Hid (∀V,Below Q w1 V->wJ V pw ws):=hid fun V hV=>zMa htx hQ hV
 have HBQ:Hid (Below Q w1 W2):=hid (by rw [<-hQ];exact hb2)
 have HRS:Hid (∀V,Below Q w1 V->V.heap[N]? = some (.cells #[.bool false,sc none 0 0] 25 (0,0))):=hid fun V hV=>(hV.block N hNQ).trans HZ2.out
 have HQ:=hid hQ
 obtain ⟨once,honce⟩:∃o,decide ((zB ws).head? = some sG)=o:=⟨_,rfl⟩
 have HON:=hid honce
 obtain ⟨us,hus⟩:∃us,(if once=true then ws.drop 1 else ws)=us:=⟨_,rfl⟩
 have HUS:=hid hus
 have HOP:Hid (opR s.data.toList=(zAu (zS (zW (zB us)))).map fun l=>(once,l)):=hid (by
  rw [zHG,<-hws]
  refine zJq _ once (zB us) honce ?_
  rw [<-hus]
  split
  ·show zB (ws.drop 1)=(zB ws).drop 1
   unfold zB;rw [List.map_drop]
  ·rfl)
 have hsu:∀x∈us,x.size<=1000000000000:=by
  rw [<-hus]
  intro x hx
  split at hx
  ·exact hsz2 x (List.mem_of_mem_drop hx)
  ·exact hsz2 x hx
 have HSU:=hid hsu
 have hlu:us.length<=500000001:=by
  rw [<-hus]
  split
  ·rw [List.length_drop];omega
  ·exact hl1
 clear hown hws hsz hb1 hb2 htx hsz2 hsu HB1 HZ1 hlen honce hus hN
 go_upto_region 3 with fail
 try rw [hW2]
 try rw [hQ]
 clear hW2 hQ
 go_cut [20] from 10 (fun v20 wx=>v20=.bool once/\W2=wx)
 case first =>
  as_aux_lemma =>
  by_cases h0:0<ws.length
  case neg =>
   have hz:¬ (0:Int)<(ws.length:Int):=by omega
   have E:Hid (once=false):=hid (by
    rw [<-HON.out,List.length_eq_zero_iff.1 (by omega:ws.length=0)];rfl)
   go_wp2_with fail
   go_meet
   case rel=>exact ⟨by rw [E.out],rfl⟩
  have hz:(0:Int)<(ws.length:Int):=by omega
  obtain ⟨b,off,rfl,hcc⟩:∃b off,pw=some (aa b off)/\∀i,(h:i<ws.length)->W2.cell? (aa b (off+i))=some (tq ws[i]):=by
   rcases HTX.out W2 HBQ.out with h|⟨b,off,h1,h2⟩
   ·rw [h] at h0;simp at h0
   ·exact ⟨b,off,h1,h2⟩
  obtain ⟨x,hx⟩:∃x,ws[0]=x:=⟨_,rfl⟩
  have cx:=hcc 0 h0
  rw [hx,Nat.add_zero] at cx
  have HX:Hid ((zB ws).head? = some x.data.toList):=hid (by
   rw [List.head?_eq_getElem?]
   unfold zB
   rw [List.getElem?_map,List.getElem?_eq_getElem h0,hx];rfl)
  clear hcc hx
  by_cases hq:x.data.toList=sG
  ·have hq2:(x.toList==[111,110,99,101])=true:=by rw [toList_data,hq];rfl
   have E:Hid (once=true):=hid (by rw [<-HON.out,HX.out,hq];simp)
   clear hq
   go_wp2_with fail
   go_meet
   case rel=>exact ⟨by rw [E.out],rfl⟩
  ·have hq2:(x.toList==[111,110,99,101])=false:=by rw [toList_data];exact beq_eq_false_iff_ne.2 hq
   have E:Hid (once=false):=hid (by rw [<-HON.out,HX.out,decide_eq_false (fun q=>hq (Option.some.inj q))])
   clear hq
   go_wp2_with fail
   go_meet
   case rel=>exact ⟨by rw [E.out],rfl⟩
 case rest =>
 obtain ⟨rfl,rfl⟩:=hcut
 go_upto_if 20 with fail
 go_cut [4] from 10 (fun v4 wx=>∃(pn:Option Addr) (cn:Nat),v4=sc pn us.length cn/\us.length<=cn/\Hid (∀V,Below Q w1 V->wJ V pn us)/\Hid (zA7 w1 N Q once (zB us) 0 0 [] none 0 wx))
 case first =>
  as_aux_lemma =>
  cases once with
  | false =>
   have E:us=ws:=by rw [<-HUS.out];rfl
   have HP:Hid (zA7 w1 N Q false (zB us) 0 0 [] none 0 W2):=hid (zEs (HRS.out _ HBQ.out) HX2.out HBQ.out)
   go_wp2_with fail
   go_meet
   case rel=>exact ⟨pw,cw,by rw [E],by rw [E];exact hcw,by rw [E];exact HTX,HP⟩
  | true =>
   have E:us=ws.drop 1:=by rw [<-HUS.out];rfl
   have h0:0<ws.length:=by
    have h:=HON.out
    rw [decide_eq_true_eq] at h
    rcases Nat.lt_or_ge 0 ws.length with q|q
    ·exact q
    ·rw [List.length_eq_zero_iff.1 (by omega:ws.length=0)] at h;cases h
   obtain ⟨b,off,rfl⟩:∃b off,pw=some (aa b off):=by
    rcases HTX.out W2 HBQ.out with h|⟨b,off,h1,h2⟩
    ·rw [h] at h0;simp at h0
    ·exact ⟨b,off,h1⟩
   obtain ⟨f0,f1,z0,z1⟩:W2.frozen? (aa Q 0)=false/\W2.frozen? (aa Q 1)=false/\W2.cell? (aa Q 0)=some (.bool false)/\W2.cell? (aa Q 1)=some (sc none 0 0):=by
    obtain ⟨a1,a2,a3,a4⟩:=zL HX2.out
    exact ⟨a3,a4,a1,a2⟩
   obtain ⟨W3,hW3⟩:∃W3,W2.setCell (aa Q 0) (.bool true)=W3:=⟨_,rfl⟩
   have HB3:Hid (Below Q w1 W3):=hid (by rw [<-hW3];exact HBQ.out.setCell (p:=(aa Q 0)) (Nat.le_refl _) _)
   have HX3:Hid (W3.heap[Q]? = some (.cells #[.bool true,sc none 0 0] 25 (0,0))):=hid (by rw [<-hW3];exact heap_setCell_same _ Q 0 _ _ _ HX2.out)
   have HP:Hid (zA7 w1 N Q true (zB us) 0 0 [] none 0 W3):=hid (zEs (HRS.out _ HB3.out) HX3.out HB3.out)
   have hl:us.length=ws.length-1:=by rw [E,List.length_drop]
   have hlz:((ws.length:Int)-1)=((us.length:Nat):Int):=by omega
   have HT1:Hid (∀V,Below Q w1 V->wJ V (some (aa b (off+1))) us):=hid fun V hV=>by rw [E];exact dS (HTX.out V hV) rfl 1
   have HT0:Hid (us=[]->∀V,Below Q w1 V->wJ V (some (aa b off)) us):=hid fun h V _=>Or.inl h
   have h1z:(1:Int)<=(ws.length:Int):=by omega
   clear E h0 z1 f1
   have HL:=hid hl
   have HCW:=hid hcw
   clear hl
   by_cases hc1:cw=1
   ·go_wp2_with fail
    try rw [hW3]
    go_meet
    case rel =>
     have hu:us=[]:=List.length_eq_zero_iff.1 (by have:=HL.out;have:=HCW.out;omega)
     exact ⟨some (aa b off),0,by rw [HL.out],by rw [hu];exact Nat.zero_le _,hid (HT0.out hu),HP⟩
   ·go_wp2_with fail
    try rw [hW3]
    go_meet
    case rel=>exact ⟨some (aa b (off+1)),cw-1,by rw [HL.out],by have:=HL.out;have:=HCW.out;omega,HT1,HP⟩
 case rest =>
 obtain ⟨pn,cn,rfl,hcn,HTU,HP0⟩:=hcut
 go_wp2_with fail
 go_loopg [6,7] (us.length+1) (fun g v6 v7 wr=>∃(f i:Nat) (out:List Ex) (p:Option Addr) (c:Nat),v6=ii f/\v7=ii i/\i<=us.length+1/\f<=i/\us.length+1-i<=g/\Hid (zA7 w1 N Q once (zB us) f i out p c wr))
 case atStart=>exact ⟨0,0,[],none,0,rfl,rfl,by omega,by omega,by omega,HP0⟩
 case round =>
  clear HP0
  obtain ⟨f,i,out,p,c,rfl,rfl,hi,hfi,hig,HP⟩:=hrel
  by_cases hin:i<=us.length
  ·have hiz:(i:Int)<=(us.length:Int):=by omega
   obtain ⟨B,hB⟩:∃B:Bool,(match us[i]? with|some x=>decide (x.data.toList≠[59])|none=>false)=B:=⟨_,rfl⟩
   have HBB:=hid hB
   clear hB
   go_upto_region 10 with fail
   go_cut [40] from 24 to 68 (fun v40 wx=>v40=.bool B/\wr=wx)
   case first =>
    as_aux_lemma =>
    by_cases hlt:i<us.length
    case neg =>
     have hltz:¬ (i:Int)<(us.length:Int):=by omega
     have E:Hid (B=false):=hid (by rw [<-HBB.out,List.getElem?_eq_none (by omega)])
     go_wp2_with fail
     go_meet
     case rel=>exact ⟨by rw [E.out],rfl⟩
    have hltz:(i:Int)<(us.length:Int):=by omega
    have hi0z:(0:Int)<=(i:Int):=by omega
    obtain ⟨b,off,rfl,hcc⟩:∃b off,pn=some (aa b off)/\∀i,(h:i<us.length)->wr.cell? (aa b (off+i))=some (tq us[i]):=by
     rcases HTU.out wr HP.out.bel with h|⟨b,off,h1,h2⟩
     ·rw [h] at hlt;simp at hlt
     ·exact ⟨b,off,h1,h2⟩
    obtain ⟨x,hx⟩:∃x,us[i]=x:=⟨_,rfl⟩
    have cx:=hcc i hlt
    rw [hx] at cx
    have HX:Hid (B=decide (x.data.toList≠[59])):=hid (by rw [<-HBB.out,List.getElem?_eq_getElem hlt,hx])
    clear hcc hx
    by_cases hq:x.data.toList=[59]
    ·have hq2:(x.toList != [59])=false:=by rw [toList_data,hq];rfl
     have hq3:(x.toList==[59])=true:=by rw [toList_data,hq];rfl
     have E:Hid (B=false):=hid (by rw [HX.out,decide_eq_false (fun h=>h hq)])
     clear hq
     go_wp2_with fail
     go_meet
     case rel=>exact ⟨by rw [E.out],rfl⟩
    ·have hq2:(x.toList != [59])=true:=by rw [toList_data];exact bne_iff_ne.2 hq
     have hq3:(x.toList==[59])=false:=by rw [toList_data];exact beq_eq_false_iff_ne.2 hq
     have E:Hid (B=true):=hid (by rw [HX.out,decide_eq_true hq])
     clear hq
     go_wp2_with fail
     go_meet
     case rel=>exact ⟨by rw [E.out],rfl⟩
   case rest =>
   obtain ⟨rfl,rfl⟩:=hcut
   cases B with
   | true =>
    have HGO:Hid (i+1<=us.length/\zA7 w1 N Q once (zB us) f (i+1) out p c wr):=hid (zO5 HP.out HBB.out)
    go_wp2_with fail
    go_roundg (us.length+1-(i+1))
    case measure=>omega
    exact ⟨f,i+1,out,p,c,rfl,by go_num,by omega,by omega,by omega,hid HGO.out.2⟩
   | false =>
    have HSG:=hid (zNt HP.out HBB.out hin)
    by_cases hff:i=f
    ·as_aux_lemma =>
     have bz:((i:Int)==(f:Int))=true:=by rw [beq_iff_eq];omega
     have HNO:Hid (opR s.data.toList=none):=hid (by
      obtain ⟨pre,post,hp,hcs,_⟩:=HSG.out
      rw [HOP.out,zHr hcs (by rw [hff,Nat.sub_self,List.take_zero];rfl)];rfl)
     have HLO:Hid (Below N w wr):=hid (HB2.out.trans (HP.out.bel.mono (Nat.le_of_lt hNQ)))
     obtain ⟨z0,z1,f0,f1⟩:=zL HP.out.res
     obtain ⟨W4,hW4⟩:∃W4,(wr.setCell (aa N 0) (.bool false)).setCell (aa N 1) (sc none 0 0)=W4:=⟨_,rfl⟩
     obtain ⟨g0,g1,hb4⟩:=zDx HN.out HP.out.res HLO.out W4 hW4
     have HBB4:=hid hb4
     clear hb4 hff
     go_wp2_with fail
     try rw [hW4]
     exact bodyPost_ret (v:=.tuple #[.agg #[.bool false,sc none 0 0],ii 4]) (by simp [results,Tryz.results7,go_sem,g0,g1]) rfl (zAg HNO.out HBB4.out)
    have HFI:Hid (f<i):=hid (by omega)
    have hfz:((i:Int)==(f:Int))=false:=by rw [beq_eq_false_iff_ne];omega
    have h0f:(0:Int)<=(f:Int):=by omega
    have hfiz:(f:Int)<=(i:Int):=by omega
    have hicz:(i:Int)<=(cn:Int):=by omega
    have hcf:¬ cn=f:=by omega
    have hltf:f<us.length:=by omega
    obtain ⟨b,off,rfl⟩:∃b off,pn=some (aa b off):=by
     rcases HTU.out wr HP.out.bel with h|⟨b,off,h1,h2⟩
     ·rw [h] at hltf;simp at hltf
     ·exact ⟨b,off,h1⟩
    obtain ⟨O,hO⟩:∃O,xZ (((zB us).drop f).take (i-f))=O:=⟨_,rfl⟩
    have HOO:=hid hO
    have HEN:Hid (Calls Tryz.prog 19 #[sc (some (aa b (off+f))) (i-f:Nat) (cn-f:Nat)] wr fun e w'=>∃(y:Ex) (ok:Bool),e=.returned (.tuple #[.agg (vE y),.bool ok])/\(ok=true->xI wr.heap.size y w')/\O=(if ok=true then some y.en else none)/\Below wr.heap.size wr w'):=hid (by
     have h:=zDd (some (aa b (off+f))) (cn-f) ((us.drop f).take (i-f)) wr (zEH (dS (HTU.out wr HP.out.bel) rfl f) _) (by rw [List.length_take,List.length_drop];omega) (by rw [List.length_take,List.length_drop];omega) (by rw [List.length_take,List.length_drop];omega) fun x hx=>HSU.out x (List.mem_of_mem_drop (List.mem_of_mem_take hx))
     rw [List.length_take,List.length_drop,Nat.min_eq_left (by omega)] at h
     refine h.mono ?_
     rintro e w' ⟨⟨y,ok,rfl,ho,hz⟩,hb⟩
     refine ⟨y,ok,rfl,ho,?_,hb⟩
     rw [<-hO,<-hz]
     unfold zB
     rw [List.map_take,List.map_drop])
    clear hO hff hltf
    go_wp2_with fail
    refine HEN.out.mono ?_
    rintro e w2 ⟨y,ok,rfl,hyo,hye,hb2⟩
    have HYE:=hid hye
    have HYO:=hid hyo
    have HB2':=hid hb2
    obtain ⟨G,hG⟩:∃G,w2.heap.size=G:=⟨_,rfl⟩
    have hGQ:Q<G:=by have h1:=HP.out.size;have h2:=hb2.size;omega
    obtain ⟨W3,hW3⟩:∃W3,w2.alloc (.cells (vE y) 42)=W3:=⟨_,rfl⟩
    have hb3:Below w2.heap.size w2 W3:=by rw [<-hW3];exact (Below.refl _ _).alloc (Nat.le_refl _) _
    have HB3:=hid hb3
    have hb13:Below wr.heap.size wr W3:=hb2.trans (hb3.mono hb2.size)
    have HB13:=hid hb13
    have HX3:Hid (W3.heap[G]? = some (.cells (vE y) 42 (0,0))):=hid (by rw [<-hW3,<-hG];exact heap_alloc_new w2 _)
    have HRES3:Hid (W3.heap[N]? = some (.cells #[.bool false,sc none 0 0] 25 (0,0))):=hid ((hb13.block _ (Array.getElem?_eq_some_iff.1 HP.out.res).1).trans HP.out.res)
    have HBOX3:Hid (W3.heap[Q]? = some (.cells #[.bool once,sc p out.length c] 25 (0,0))):=hid ((hb13.block _ (Array.getElem?_eq_some_iff.1 HP.out.box).1).trans HP.out.box)
    have HBEL3:Hid (Below Q w1 W3):=hid (HP.out.bel.trans (hb13.mono (Nat.le_of_lt HP.out.size)))
    clear hyo hye hb2 hb3 hb13 HEN
    go_upto_region 14 with fail
    try rw [hW3]
    try rw [hG]
    clear hW3 hG
    cases ok with
    | false =>
     as_aux_lemma =>
     have HNO:Hid (opR s.data.toList=none):=hid (by
      rw [HOP.out,zLZ HSG.out (Or.inl (by rw [HOO.out,HYE.out];rfl))];rfl)
     have HLO:Hid (Below N w W3):=hid (HB2.out.trans (HBEL3.out.mono (Nat.le_of_lt hNQ)))
     obtain ⟨z0,z1,f0,f1⟩:=zL HRES3.out
     obtain ⟨W4,hW4⟩:∃W4,(W3.setCell (aa N 0) (.bool false)).setCell (aa N 1) (sc none 0 0)=W4:=⟨_,rfl⟩
     obtain ⟨g0,g1,hb4⟩:=zDx HN.out HRES3.out HLO.out W4 hW4
     have HBB4:=hid hb4
     clear hb4
     go_wp2_with fail
     try rw [hW4]
     exact bodyPost_ret (v:=.tuple #[.agg #[.bool false,sc none 0 0],ii 4]) (by simp [results,Tryz.results7,go_sem,g0,g1]) rfl (zAg HNO.out HBB4.out)
    | true =>
     have HES:Hid (xZ (((zB us).drop f).take (i-f))=some y.en):=hid (by rw [HOO.out,HYE.out];rfl)
     have ho16:=HP.out.few
     have b73:Below W3.heap.size W3 (W3.alloc (.cells (vE y) 42)):=(Below.refl _ _).alloc (Nat.le_refl _) _
     have HN7:Hid ((W3.alloc (.cells (vE y) 42)).heap[W3.heap.size]? = some (.cells (KEx.enc y).toArray 42 (0,0))):=hid (heap_alloc_new W3 _)
     have hs3:Q+1<=W3.heap.size:=(Array.getElem?_eq_some_iff.1 HBOX3.out).1
     have HR7:Hid (sT KEx (Q+1) (W3.alloc (.cells (vE y) 42)) (sc p out.length c) out (W3.alloc (.cells (vE y) 42))):=hid ⟨zE.own_on (zE.own_on HP.out.own HB13.out) b73,Below.refl _ _,Nat.le_trans hs3 b73.size⟩
     have HEA7:Hid (∀x∈out++[y],xI (Q+1) x (W3.alloc (.cells (vE y) 42))):=hid fun x hx=>by
      rcases List.mem_append.1 hx with h|h
      ·exact ((HP.out.each x h).on HB13.out).on b73
      ·rw [List.mem_singleton] at h
       subst h
       exact (((HYO.out rfl).weak HP.out.size).on HB3.out).on b73
     have HBOX7:Hid ((W3.alloc (.cells (vE y) 42)).heap[Q]? = some (.cells #[.bool once,sc p out.length c] 25 (0,0))):=hid ((b73.block _ (by omega)).trans HBOX3.out)
     have HBEL7:Hid (Below Q w1 (W3.alloc (.cells (vE y) 42))):=hid (HBEL3.out.trans (b73.mono (by omega)))
     obtain ⟨-,b1,-,-⟩:=zL HBOX3.out
     obtain ⟨c0,c1,c2,c3,c4,c5,c6,c7,c8,c9⟩:W3.cell? (aa G 0)=some (ii y.kind)/\W3.cell? (aa G 1)=some (tq y.temp)/\W3.cell? (aa G 2)=some (tq y.ka)/\W3.cell? (aa G 3)=some (tq y.kb)/\W3.cell? (aa G 4)=some (ii y.iff)/\W3.cell? (aa G 5)=some (sc y.vp y.vo.length y.vc)/\W3.cell? (aa G 6)=some (sc y.ep y.eo.length y.ec)/\W3.cell? (aa G 7)=some (sc y.pp y.po.length y.pc)/\W3.cell? (aa G 8)=some (iu y.stamp)/\W3.cell? (aa G 9)=some (ii y.num):=by
      refine ⟨?_,?_,?_,?_,?_,?_,?_,?_,?_,?_⟩<;>(rw [Lib.cell_of_heap HX3.out];rfl)
     clear b73 hs3
     go_upto_region 17 with (at_builtin;refine nZ KEx rfl _ _ 23 rfl i0 _ 152 Tryz.underlying23 HI.out hz0 hz1 hz2 rfl (Q+1) _ _ out rfl HR7.out y _ _ _ rfl rfl _ _ HN7.out (by unfold maxLen;omega) (by omega) ?_;intro g3 k3 w8 hst3 hg3 _;have hq8:=gY HBOX7.out hg3 HR7.out.own (by decide);obtain ⟨q0,q1,q2,q3⟩:=zL hq8;have HQ8:=hid hq8;have HST8:=hid hst3;have HG8:=hid hg3;clear hst3 hg3 hq8)
     obtain ⟨W9,hW9⟩:∃W9,w8.setCell (aa Q 1) (sc (some (aa g3 0)) (out.length+1) k3)=W9:=⟨_,rfl⟩
     have hgs:w8.grownBy W9 (some Q):=by rw [<-hW9];exact zZ w8 Q 1 _
     have HBEL9:Hid (Below Q w1 W9):=hid (by
      rw [<-hW9]
      exact (zA2 HBEL7.out HG8.out (fun k hk=>by have:=(World.ownsRow.lt (show World.ownsRow _ (Q+1) KEx.T KEx.k _ out.length (KEx.cells out) from HR7.out.own) k hk).1;omega) (by have:=HR7.out.base;omega)).setCell (p:=(aa Q 1)) (Nat.le_refl _) _)
     have HBX9:Hid (W9.heap[Q]? = some (.cells #[.bool once,sc (some (aa g3 0)) (out.length+1) k3] 25 (0,0))):=hid (by rw [<-hW9];exact heap_setCell_same w8 Q 1 _ _ _ HQ8.out)
     have HRES9:=hid (HRS.out W9 HBEL9.out)
     have HNX:Hid ((out++[y]).length<=16->zA7 w1 N Q once (zB us) (i+1) (i+1) (out++[y]) (some (aa g3 0)) k3 W9):=hid fun h16 =>
      zMh HSG.out HES.out HRES9.out (by rw [List.length_append];exact HBX9.out) (by rw [List.length_append];exact zE.own_farE HST8.out.own hgs (Nat.lt_succ_self _)) (fun x hx=>((HEA7.out x hx).grown HR7.out.own HG8.out).far hgs (Nat.lt_succ_self _)) HBEL9.out h16
     clear hgs
     try rw [hW9]
     clear hW9 b1 c0 c1 c2 c3 c4 c5 c6 c7 c8 c9 q0 q1 q2 q3
     obtain ⟨-,b1,-,-⟩:=zL HBX9.out
     by_cases h16:16<out.length+1
     ·have h16z:(16:Int)<(out.length:Int)+1:=by omega
      have HNO:Hid (opR s.data.toList=none):=hid (by rw [HOP.out,zLZ HSG.out (Or.inr h16)];rfl)
      have HLO:Hid (Below N w W9):=hid (HB2.out.trans (HBEL9.out.mono (Nat.le_of_lt hNQ)))
      obtain ⟨z0,z1,f0,f1⟩:=zL HRES9.out
      obtain ⟨W4,hW4⟩:∃W4,(W9.setCell (aa N 0) (.bool false)).setCell (aa N 1) (sc none 0 0)=W4:=⟨_,rfl⟩
      obtain ⟨g0,g1,hb4⟩:=zDx HN.out HRES9.out HLO.out W4 hW4
      have HBB4:=hid hb4
      clear hb4
      go_wp2_with fail
      try rw [hW4]
      exact bodyPost_ret (v:=.tuple #[.agg #[.bool false,sc none 0 0],ii 4]) (by simp [results,Tryz.results7,go_sem,g0,g1]) rfl (zAg HNO.out HBB4.out)
     ·have h16z:¬ (16:Int)<(out.length:Int)+1:=by omega
      go_wp2_with fail
      go_roundg (us.length+1-(i+1))
      case measure=>omega
      exact ⟨i+1,i+1,out++[y],some (aa g3 0),k3,by go_num,by go_num,by omega,by omega,by omega,hid (HNX.out (by rw [List.length_append];simp only [List.length_cons,List.length_nil];omega))⟩
  ·have hiz:¬ (i:Int)<=(us.length:Int):=by omega
   have HPQ:Hid (nP wr (sc p out.length c) out):=hid (zBc HP.out.own HP.out.each (by have:=HP.out.few;omega))
   have HMY:=hid (zBW once (sc p out.length c) out wr HPQ.out)
   have HES:Hid (opR s.data.toList=if uD (out.map Ex.en)=true then some (once,out.map Ex.en) else none):=hid (by
    rw [HOP.out,zMt HP.out (by omega)]
    unfold zAu
    rw [Option.bind_some]
    split<;>rfl)
   obtain ⟨b0,b1,-,-⟩:=zL HP.out.box
   obtain ⟨mb,hmb⟩:∃mb,uD (out.map Ex.en)=mb:=⟨_,rfl⟩
   rw [hmb] at HMY HES
   clear hmb
   go_wp2_with fail
   refine HMY.out.mono ?_
   rintro e w2 ⟨rfl,hb2⟩
   have HRES2:Hid (w2.heap[N]? = some (.cells #[.bool false,sc none 0 0] 25 (0,0))):=hid ((hb2.block _ (Array.getElem?_eq_some_iff.1 HP.out.res).1).trans HP.out.res)
   have HBOX2:Hid (w2.heap[Q]? = some (.cells #[.bool once,sc p out.length c] 25 (0,0))):=hid ((hb2.block _ (Array.getElem?_eq_some_iff.1 HP.out.box).1).trans HP.out.box)
   have HLO:Hid (Below N w w2):=hid (HB2.out.trans ((HP.out.bel.trans (hb2.mono (Nat.le_of_lt HP.out.size))).mono (Nat.le_of_lt hNQ)))
   have HOW2:=hid (zE.own_on HP.out.own hb2)
   have HEA2:Hid (∀x∈out,xI (Q+1) x w2):=hid fun x hx=>(HP.out.each x hx).on hb2
   clear hb2 b0 b1
   cases mb with
   | false =>
    as_aux_lemma =>
    have HNO:Hid (opR s.data.toList=none):=hid HES.out
    obtain ⟨z0,z1,f0,f1⟩:=zL HRES2.out
    obtain ⟨W4,hW4⟩:∃W4,(w2.setCell (aa N 0) (.bool false)).setCell (aa N 1) (sc none 0 0)=W4:=⟨_,rfl⟩
    obtain ⟨g0,g1,hb4⟩:=zDx HN.out HRES2.out HLO.out W4 hW4
    have HBB4:=hid hb4
    clear hb4
    go_wp2_with fail
    try rw [hW4]
    exact bodyPost_ret (v:=.tuple #[.agg #[.bool false,sc none 0 0],ii 4]) (by simp [results,Tryz.results7,go_sem,g0,g1]) rfl (zAg HNO.out HBB4.out)
   | true =>
    obtain ⟨b0,b1,-,-⟩:=zL HBOX2.out
    obtain ⟨z0,z1,f0,f1⟩:=zL HRES2.out
    obtain ⟨W4,hW4⟩:∃W4,(w2.setCell (aa N 0) (.bool once)).setCell (aa N 1) (sc p out.length c)=W4:=⟨_,rfl⟩
    have h4:W4.heap[N]? = some (.cells #[.bool once,sc p out.length c] 25 (0,0)):=by
     rw [<-hW4]
     exact heap_setCell_same _ N 1 _ _ _ (heap_setCell_same _ N 0 _ _ _ HRES2.out)
    have hg1:w2.grownBy (w2.setCell (aa N 0) (.bool once)) (some N):=zZ w2 N 0 _
    have hg2:(w2.setCell (aa N 0) (.bool once)).grownBy W4 (some N):=by rw [<-hW4];exact zZ _ N 1 _
    have HFIN:Hid (bI w s.data.toList (.returned (.tuple #[.agg #[.bool once,sc p out.length c],ii 0])) W4):=hid
     ⟨⟨once,sc p out.length c,out,0,rfl,zE.own_weak (zE.own_farE (zE.own_farE HOW2.out hg1 (by omega)) hg2 (by omega)) (by rw [HN.out];omega),fun x hx=>(((HEA2.out x hx).far hg1 (by omega)).far hg2 (by omega)).weak (by rw [HN.out];omega),.inl ⟨rfl,HES.out⟩⟩,by
      rw [<-hW4,HN.out]
      exact (HLO.out.setCell (p:=(aa N 0)) (Nat.le_refl _) _).setCell (p:=(aa N 1)) (Nat.le_refl _) _⟩
    obtain ⟨g0,g1,-,-⟩:=zL h4
    clear h4 hg1 hg2
    go_wp2_with fail
    try rw [hW4]
    exact bodyPost_ret (v:=.tuple #[.agg #[.bool once,sc p out.length c],ii 0]) (by simp [results,Tryz.results7,go_sem,g0,g1]) rfl HFIN.out
end
end Go.Proofs.YtjeogllmpjihaaaGreatDoor
