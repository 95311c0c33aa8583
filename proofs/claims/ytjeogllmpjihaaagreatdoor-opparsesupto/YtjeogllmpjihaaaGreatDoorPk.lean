/-
  Texts of this claim, one behind the other: Opz Opu Ora Orb Orc Orx Ory Ozp Pc6 Hp1 Oql Oqg Oqh Orz Oxa.
-/
import Derived.Test.YtjeogllmpjihaaaGreatDoorPj
namespace Go.Proofs.YtjeogllmpjihaaaGreatDoor
section
open Go.RowKit
theorem ansM_len16 (p:List Tm):(ansM p).length≤8:=by
 unfold ansM
 by_cases hm:mayM p=0
 ·rw [if_pos hm]
  have:=sortM_len p
  have:=(mayM_zero hm).1
  omega
 ·rw [if_neg hm];simp
set_option maxHeartbeats 40000000 in
set_option maxRecDepth 100000 in
theorem rmay16_in (x:Ex) (w:World) (h:ExIn w x) (h1:1≤x.kind) (h2:x.kind≤12) :
  Calls Tryz.prog 44 #[aggEx x] w fun e w'=>e=.returned (.bool (mayEn x.en))∧Below w.heap.size w w':=by
 obtain ⟨N,hN⟩:∃N,w.heap.size=N:=⟨_,rfl⟩
 have HK:Hid (MayK w N x (w.alloc (.cells (encEx x).toArray 42))):=by rw [←hN];exact mayK_new h
 have HN:=hid fun W=>rname16_yes x.kind W h1 h2
 have hne:=name_ne x.kind h1 h2
 have HNO:Hid (∀P:Prop,¬ P→(mayEn x.en=true→P)→mayEn x.en=false):=fun P hp hq=>by
  cases hm:mayEn x.en with
  | false=>rfl
  | true=>exact absurd (hq hm) hp
 obtain ⟨n,hn⟩:∃n,nameS x.kind=n:=⟨_,rfl⟩
 rw [hn] at HN hne
 clear hn
 have hta:=h.ka
 have htb:=h.kb
 have HTY:=hid fun W=>rtype_any x.ka W hta
 have HKY:=hid fun W=>rkey_any x.ka x.kb W hta htb
 have HKF:Hid (keyEn x.en=false→mayEn x.en=false):=fun q=>HNO.out (keyEn x.en=true) (by rw [q];decide) fun hm=>(mayEn_parts hm).key
 have HKT:Hid (typedK x.kind=true→keyEn x.en=(decide (x.kb=⟨#[]⟩)&&typeB x.ka.data.toList)):=fun q=>by unfold keyEn;exact if_pos q
 have HKN:Hid (¬ typedK x.kind=true→keyEn x.en=keyB x.ka x.kb):=fun q=>by unfold keyEn;exact if_neg q
 obtain ⟨t1,ht1⟩:∃t,(decide (x.temp=⟨#[]⟩)||decide (x.kind≤2)&&tempB x.temp.data.toList)=t:=⟨_,rfl⟩
 obtain ⟨t2,ht2⟩:∃t,decide (x.iff≠0→3≤x.kind∧x.kind≤5∧0≤x.iff∧x.iff≤999999999)=t:=⟨_,rfl⟩
 obtain ⟨t3,ht3⟩:∃t,decide (x.num≠0→x.kind=7∧0≤x.num∧x.num≤999999999)=t:=⟨_,rfl⟩
 obtain ⟨t4,ht4⟩:∃t,decide (x.stamp≠0→9≤x.kind)=t:=⟨_,rfl⟩
 obtain ⟨t5,ht5⟩:∃t,(decide (x.vo.map Fx.fld≠[]→x.kind≤3)&&mayB (x.vo.map Fx.fld))=t:=⟨_,rfl⟩
 obtain ⟨t6,ht6⟩:∃t,(decide (x.eo≠[]↔x.kind=4)&&decide (mayE x.eo=0))=t:=⟨_,rfl⟩
 obtain ⟨t7,ht7⟩:∃t,((decide (mayM x.po=0)&&decide (sortM x.po=x.po))&&decide (x.po≠[]→x.kind=2∨x.kind=8∨x.kind=12))=t:=⟨_,rfl⟩
 have HAL:Hid (mayEn x.en=(keyEn x.en&&t1&&t2&&t3&&t4&&t5&&t6&&t7)):=hid (by
  rw [←ht1,←ht2,←ht3,←ht4,←ht5,←ht6,←ht7]
  unfold mayEn
  have:decide (1≤x.en.kind∧x.en.kind≤12)=true:=decide_eq_true ⟨h1,h2⟩
  rw [this]
  simp only [Bool.true_and,Bool.and_assoc]
  rfl)
 have H1:=hid ht1
 have H2:=hid ht2
 have H3:=hid ht3
 have H4:=hid ht4
 have H5:=hid ht5
 have H6:=hid ht6
 have H7:=hid ht7
 clear ht1 ht2 ht3 ht4 ht5 ht6 ht7
 have htt:=h.temp
 have HTE:=hid fun W=>rtemp_any x.temp W htt
 have HVL:x.vo.length≤maxLen:=h.fit.1
 have HEL:x.eo.length≤maxLen:=h.efit.1
 have HPL:x.po.length≤maxLen:=h.pfit.1
 have HVM:Hid (∀W,ExIn W x→Calls Tryz.prog 84 #[.slice x.vp x.vo.length x.vc] W fun e w'=>e=.returned (.bool (mayB (x.vo.map Fx.fld)))∧Below W.heap.size W w'):=hid fun W hW=>(rmay_any x.vs x.vo W hW.val hW.fit).mono fun e w' ⟨a,b⟩=>⟨a,b.below⟩
 have HEM:Hid (∀W,ExIn W x→Calls Tryz.prog 85 #[.slice x.ep x.eo.length x.ec] W fun e w'=>e=.returned (.int .i64 (mayE x.eo))∧w'=W):=hid fun W hW=>rmayE_any x.es x.eo W hW.eds hW.efit
 have HPN:Hid (∀W,ExIn W x→Calls Tryz.prog 86 #[.slice x.pp x.po.length x.pc] W fun e w'=>∃u,e=.returned (.tuple #[u,.int .i64 (mayM x.po)])∧KM.Is w' u (ansM x.po)∧Below W.heap.size W w'):=hid fun W hW=>(rnormM_any x.ps x.po W hW.prd hW.pfit).mono fun e w' ⟨⟨u,a,b⟩,c⟩=>⟨u,a,Kind.own_is b,c⟩
 have HPS:Hid (∀W u,ExIn W x→KM.Is W u (ansM x.po)→Calls Tryz.prog 23 #[u,.slice x.pp x.po.length x.pc] W fun e w'=>e=.returned (.bool (decide (ansM x.po=x.po)))∧Below W.heap.size W w'):=hid fun W u hW hu=>(rsameM_any u x.ps (ansM x.po) x.po W hu hW.prd (by have:=ansM_len16 x.po;unfold maxLen;omega)).mono fun e w' ⟨a,n,b⟩=>⟨a,by subst b;exact bel_drewN (Below.refl _ _) n⟩
 obtain ⟨c0,-⟩:=HK.out.cells
 have h0:=h
 clear h
 have H:=hid h0
 clear h0
 unfold aggEx
 have HC:Hid (∀W,MayK w N x W→W.cell? ⟨N,0,none⟩=some (.int .i64 x.kind)∧W.cell? ⟨N,1,none⟩=some (.string x.temp)∧W.cell? ⟨N,2,none⟩=some (.string x.ka)∧W.cell? ⟨N,3,none⟩=some (.string x.kb)∧W.cell? ⟨N,4,none⟩=some (.int .i64 x.iff)∧W.cell? ⟨N,5,none⟩=some (.slice x.vp x.vo.length x.vc)∧W.cell? ⟨N,6,none⟩=some (.slice x.ep x.eo.length x.ec)∧W.cell? ⟨N,7,none⟩=some (.slice x.pp x.po.length x.pc)∧W.cell? ⟨N,8,none⟩=some (.int .u64 x.stamp)∧W.cell? ⟨N,9,none⟩=some (.int .i64 x.num)):=fun W hW=>hW.cells
 simp only [encEx,Ex.vs,Ex.es,Ex.ps] at HK c0 ⊢
 go_enter Tryz.func44,Tryz.ntmps44
 go_upto_if 11 with (first|(go_at_call 39;refine (HN.out _).mono ?_;rintro e w1 ⟨rfl,q1⟩;have K1:=hid (HK.out.on q1);clear q1 HK c0))
 go_cut [1,3] from 7 (fun v1 v3 wx=>v1=.pointer (some ⟨N,0,none⟩)∧v3=.int .i64 x.kind∧Hid (MayK w N x wx))
 case first =>
  as_aux_lemma =>
   go_wp2_with fail
   go_meet
   case rel=>exact ⟨rfl,rfl,K1.out⟩
 case rest =>
  obtain ⟨rfl,rfl,K2⟩:=hcut
  clear K1 hne HN
  go_upto_region 4 with fail
  go_cut [1,3,4] from 7 (fun v1 v3 v4 wx=>v1=.pointer (some ⟨N,0,none⟩)∧v3=.int .i64 x.kind∧v4=.bool (typedK x.kind)∧Hid (MayK w N x wx))
  case first =>
   as_aux_lemma =>
    by_cases e8:x.kind=8
    ·have HT:Hid (typedK x.kind=true):=by show _=_;rw [e8];rfl
     go_wp2_with fail
     go_meet
     case rel=>exact ⟨rfl,by rw [e8],by rw [HT.out],K2.out⟩
    by_cases e10:x.kind=10
    ·have HT:Hid (typedK x.kind=true):=by show _=_;rw [e10];rfl
     go_wp2_with fail
     go_meet
     case rel=>exact ⟨rfl,by rw [e10],by rw [HT.out],K2.out⟩
    by_cases e12:x.kind=12
    ·have HT:Hid (typedK x.kind=true):=by show _=_;rw [e12];rfl
     go_wp2_with fail
     go_meet
     case rel=>exact ⟨rfl,by rw [e12],by rw [HT.out],K2.out⟩
    have HT:Hid (typedK x.kind=false):=by show _=_;unfold typedK;simp [e8,e10,e12]
    have b8:(x.kind==8)=false:=by rw [beq_eq_false_iff_ne];exact e8
    have b10:(x.kind==10)=false:=by rw [beq_eq_false_iff_ne];exact e10
    have b12:(x.kind==12)=false:=by rw [beq_eq_false_iff_ne];exact e12
    go_wp2_with fail
    go_meet
    case rel=>exact ⟨rfl,rfl,by rw [HT.out],K2.out⟩
  case rest =>
  obtain ⟨rfl,rfl,rfl,K3⟩:=hcut
  clear K2
  go_upto_region 5 with fail
  go_cut [1,3,4,45] from 7 (fun v1 v3 _ v45 wx=>v1=.pointer (some ⟨N,0,none⟩)∧v3=.int .i64 x.kind∧v45=.bool (!keyEn x.en)∧Hid (MayK w N x wx))
  case first =>
   as_aux_lemma =>
    obtain ⟨d0,d1,d2,d3,d4,d5,d6,d7,d8,d9⟩:=HC.out wc K3.out
    cases ht:typedK x.kind with
    | true =>
     have HKE:=hid (HKT.out ht)
     clear HKT HKN
     by_cases eb:x.kb=⟨#[]⟩
     ·have hbe:x.kb.toList.isEmpty=true:=by rw [eb,Lib.toList_data];rfl
      have HKE2:Hid (keyEn x.en=typeB x.ka.data.toList):=by show _=_;rw [HKE.out,eb];simp
      clear eb
      cases hty:typeB x.ka.data.toList
      all_goals
       rw [hty] at HTY HKE2
       clear hty
       go_wp2_with (first|(go_at_call 82;refine (HTY.out _).mono ?_;rintro e w2 ⟨rfl,rfl⟩))
       go_meet
       case rel=>exact ⟨rfl,rfl,by rw [HKE2.out];rfl,K3.out⟩
     ·have hbe:x.kb.toList.isEmpty=false:=by
       rw [Lib.toList_data]
       cases hq:x.kb.data.toList with
       | nil=>exact absurd (ba_empty hq) eb
       | cons _ _=>rfl
      have HKE2:Hid (keyEn x.en=false):=by show _=_;rw [HKE.out];simp [eb]
      clear eb
      go_wp2_with fail
      go_meet
      case rel=>exact ⟨rfl,rfl,by rw [HKE2.out];rfl,K3.out⟩
    | false =>
     have HKE:=hid (HKN.out (by rw [ht];decide))
     clear HKT HKN
     go_wp2_with (first|(go_at_call 78;refine (HKY.out _).mono ?_;rintro e w2 ⟨rfl,q2⟩))
     go_meet
     case rel=>exact ⟨rfl,rfl,by rw [HKE.out],K3.out.on q2⟩
  case rest =>
  obtain ⟨rfl,rfl,rfl,K4⟩:=hcut
  clear K3 HKT HKN HTY HKY
  cases hke:keyEn x.en with
  | false =>
   have HF:=hid (HKF.out hke)
   go_wp2_with fail
   go_ret
   rw [HF.out]
   exact ⟨rfl,K4.out.bel⟩
  | true =>
   have HKE1:Hid (keyEn x.en=true):=hid hke
   clear hke
   go_upto_region 7 with fail
   go_cut [1,3,58] from 7 (fun v1 v3 v58 wx=>v1=.pointer (some ⟨N,0,none⟩)∧v3=.int .i64 x.kind∧v58=.bool (!t1)∧Hid (MayK w N x wx))
   case first =>
    as_aux_lemma =>
     obtain ⟨-,d1,-⟩:=HC.out _ K4.out
     by_cases q:x.temp=⟨#[]⟩
     ·have hse:x.temp.toList.isEmpty=true:=by rw [q,Lib.toList_data];rfl
      have E:Hid (t1=true):=hid (by rw [←H1.out];simp [q])
      clear q
      go_wp2_with fail
      go_meet
      case rel=>exact ⟨rfl,rfl,by rw [E.out];rfl,K4.out⟩
     ·have hse:=isEmpty_no16 q
      by_cases q2:2<x.kind
      ·have E:Hid (t1=false):=hid (by rw [←H1.out];simp [q];omega)
       clear q
       go_wp2_with fail
       go_meet
       case rel=>exact ⟨rfl,rfl,by rw [E.out];rfl,K4.out⟩
      ·have E:Hid (t1=tempB x.temp.data.toList):=hid (by rw [←H1.out,decide_eq_false q,decide_eq_true (show x.kind≤2 by omega)];rfl)
       clear q
       obtain ⟨tb,htb⟩:∃tb,tempB x.temp.data.toList=tb:=⟨_,rfl⟩
       rw [htb] at E HTE
       clear htb
       go_wp2_with (first|(go_at_call 83;refine (HTE.out _).mono ?_;rintro e w2 ⟨rfl,rfl⟩))
       go_meet
       case rel=>exact ⟨rfl,rfl,by rw [E.out],K4.out⟩
   case rest =>
   obtain ⟨rfl,rfl,rfl,K5⟩:=hcut
   clear K4 HTE
   cases t1 with
   | false =>
    go_wp2_with fail
    go_ret
    exact ⟨by rw [HAL.out];simp,K5.out.bel⟩
   | true =>
   go_upto_region 9 with fail
   go_cut [1,3,79] from 7 (fun v1 v3 v79 wx=>v1=.pointer (some ⟨N,0,none⟩)∧v3=.int .i64 x.kind∧v79=.bool (!t2)∧Hid (MayK w N x wx))
   case first =>
    as_aux_lemma =>
     obtain ⟨-,-,-,-,d4,-⟩:=HC.out _ K5.out
     by_cases q:x.iff=0
     ·skip
      have E:Hid (t2=true):=hid (by rw [←H2.out];exact decide_eq_true (by omega))
      go_wp2_with fail
      go_meet
      case rel=>exact ⟨rfl,by first|rfl|simp [*],by rw [E.out];rfl,K5.out⟩
     have Bq:(x.iff==0)=false:=by rw [beq_eq_false_iff_ne];exact q
     have Cq:(x.iff != 0)=true:=by rw [bne_iff_ne];exact q
     by_cases r1:x.kind<3
     ·skip
      have E:Hid (t2=false):=hid (by rw [←H2.out];exact decide_eq_false (by omega))
      go_wp2_with fail
      go_meet
      case rel=>exact ⟨rfl,by first|rfl|simp [*],by rw [E.out];rfl,K5.out⟩
     by_cases r2:5<x.kind
     ·skip
      have E:Hid (t2=false):=hid (by rw [←H2.out];exact decide_eq_false (by omega))
      go_wp2_with fail
      go_meet
      case rel=>exact ⟨rfl,by first|rfl|simp [*],by rw [E.out];rfl,K5.out⟩
     by_cases r3:x.iff<0
     ·skip
      have E:Hid (t2=false):=hid (by rw [←H2.out];exact decide_eq_false (by omega))
      go_wp2_with fail
      go_meet
      case rel=>exact ⟨rfl,by first|rfl|simp [*],by rw [E.out];rfl,K5.out⟩
     by_cases r4:999999999<x.iff
     ·skip
      have E:Hid (t2=false):=hid (by rw [←H2.out];exact decide_eq_false (by omega))
      go_wp2_with fail
      go_meet
      case rel=>exact ⟨rfl,by first|rfl|simp [*],by rw [E.out];rfl,K5.out⟩
     have E:Hid (t2=true):=hid (by rw [←H2.out];exact decide_eq_true (by omega))
     clear q
     go_wp2_with fail
     go_meet
     case rel=>exact ⟨rfl,by first|rfl|simp [*],by rw [E.out];rfl,K5.out⟩
   case rest =>
   obtain ⟨rfl,rfl,rfl,K6⟩:=hcut
   clear K5
   cases t2 with
   | false =>
    go_wp2_with fail
    go_ret
    exact ⟨by rw [HAL.out];simp,K6.out.bel⟩
   | true =>
   go_upto_region 11 with fail
   go_cut [1,3,96] from 7 (fun v1 v3 v96 wx=>v1=.pointer (some ⟨N,0,none⟩)∧v3=.int .i64 x.kind∧v96=.bool (!t3)∧Hid (MayK w N x wx))
   case first =>
    as_aux_lemma =>
     obtain ⟨-,-,-,-,-,-,-,-,-,d9⟩:=HC.out _ K6.out
     by_cases q:x.num=0
     ·skip
      have E:Hid (t3=true):=hid (by rw [←H3.out];exact decide_eq_true (by omega))
      go_wp2_with fail
      go_meet
      case rel=>exact ⟨rfl,by first|rfl|simp [*],by rw [E.out];rfl,K6.out⟩
     have Bq:(x.num==0)=false:=by rw [beq_eq_false_iff_ne];exact q
     have Cq:(x.num != 0)=true:=by rw [bne_iff_ne];exact q
     by_cases r1:¬ x.kind=7
     ·have Br1:(x.kind==7)=false:=by rw [beq_eq_false_iff_ne];exact r1
      have Cr1:(x.kind != 7)=true:=by rw [bne_iff_ne];exact r1
      have E:Hid (t3=false):=hid (by rw [←H3.out];exact decide_eq_false (by omega))
      clear r1
      go_wp2_with fail
      go_meet
      case rel=>exact ⟨rfl,by first|rfl|simp [*],by rw [E.out];rfl,K6.out⟩
     have k7:x.kind=7:=by omega
     have HK7:Hid (x.kind=7):=hid k7
     by_cases r3:x.num<0
     ·skip
      have E:Hid (t3=false):=hid (by rw [←H3.out];exact decide_eq_false (by omega))
      go_wp2_with fail
      clear k7
      try rw [←HK7.out]
      go_meet
      case rel=>exact ⟨rfl,by first|rfl|simp [*],by rw [E.out];rfl,K6.out⟩
     by_cases r4:999999999<x.num
     ·skip
      have E:Hid (t3=false):=hid (by rw [←H3.out];exact decide_eq_false (by omega))
      go_wp2_with fail
      clear k7
      try rw [←HK7.out]
      go_meet
      case rel=>exact ⟨rfl,by first|rfl|simp [*],by rw [E.out];rfl,K6.out⟩
     have E:Hid (t3=true):=hid (by rw [←H3.out];exact decide_eq_true (by omega))
     clear q r1
     go_wp2_with fail
     clear k7
     try rw [←HK7.out]
     go_meet
     case rel=>exact ⟨rfl,by first|rfl|simp [*],by rw [E.out];rfl,K6.out⟩
   case rest =>
   obtain ⟨rfl,rfl,rfl,K7⟩:=hcut
   clear K6
   cases t3 with
   | false =>
    go_wp2_with fail
    go_ret
    exact ⟨by rw [HAL.out];simp,K7.out.bel⟩
   | true =>
   go_upto_region 13 with fail
   go_cut [1,3,103] from 7 (fun v1 v3 v103 wx=>v1=.pointer (some ⟨N,0,none⟩)∧v3=.int .i64 x.kind∧v103=.bool (!t4)∧Hid (MayK w N x wx))
   case first =>
    as_aux_lemma =>
     obtain ⟨-,-,-,-,-,-,-,-,d8,-⟩:=HC.out _ K7.out
     by_cases q:x.stamp=0
     ·skip
      have E:Hid (t4=true):=hid (by rw [←H4.out];exact decide_eq_true (by omega))
      go_wp2_with fail
      go_meet
      case rel=>exact ⟨rfl,by first|rfl|simp [*],by rw [E.out];rfl,K7.out⟩
     have Bq:(x.stamp==0)=false:=by rw [beq_eq_false_iff_ne];exact q
     have Cq:(x.stamp != 0)=true:=by rw [bne_iff_ne];exact q
     by_cases r1:x.kind<9
     ·skip
      have E:Hid (t4=false):=hid (by rw [←H4.out];exact decide_eq_false (by omega))
      go_wp2_with fail
      go_meet
      case rel=>exact ⟨rfl,by first|rfl|simp [*],by rw [E.out];rfl,K7.out⟩
     have E:Hid (t4=true):=hid (by rw [←H4.out];exact decide_eq_true (by omega))
     clear q
     go_wp2_with fail
     go_meet
     case rel=>exact ⟨rfl,by first|rfl|simp [*],by rw [E.out];rfl,K7.out⟩
   case rest =>
   obtain ⟨rfl,rfl,rfl,K8⟩:=hcut
   clear K7
   cases t4 with
   | false =>
    go_wp2_with fail
    go_ret
    exact ⟨by rw [HAL.out];simp,K8.out.bel⟩
   | true =>
   go_upto_region 15 with fail
   go_cut [1,3,117] from 7 (fun v1 v3 v117 wx=>v1=.pointer (some ⟨N,0,none⟩)∧v3=.int .i64 x.kind∧v117=.bool (!t5)∧Hid (MayK w N x wx))
   case first =>
    as_aux_lemma =>
     obtain ⟨-,-,-,-,-,d5,-⟩:=HC.out _ K8.out
     have HZ:Hid (∀n:Nat,x.vo.length=n→(x.vo.map Fx.fld≠[]↔0<n)):=hid fun n hn=>by
      rw [←hn]
      cases x.vo<;>simp
     obtain ⟨mb,hmb⟩:∃mb,mayB (x.vo.map Fx.fld)=mb:=⟨_,rfl⟩
     rw [hmb] at HVM H5
     clear hmb
     by_cases q:0<x.vo.length
     ·have qz:(0:Int)<(x.vo.length:Int):=by omega
      by_cases r:3<x.kind
      ·have E:Hid (t5=false):=hid (by
        rw [←H5.out,decide_eq_false (by rw [HZ.out _ rfl];omega)]
        rfl)
       clear q
       go_wp2_with fail
       go_meet
       case rel=>exact ⟨rfl,rfl,by rw [E.out];rfl,K8.out⟩
      ·have E:Hid (t5=mb):=hid (by
        rw [←H5.out,decide_eq_true (by intro _;omega),Bool.true_and])
       clear q
       go_wp2_with (first|(go_at_call 84;refine (HVM.out _ K8.out.ex).mono ?_;rintro e w2 ⟨rfl,q2⟩))
       go_meet
       case rel=>exact ⟨rfl,rfl,by rw [E.out],K8.out.on q2⟩
     ·have qz:¬ (0:Int)<(x.vo.length:Int):=by omega
      have E:Hid (t5=mb):=hid (by
       rw [←H5.out,decide_eq_true (by rw [HZ.out _ rfl];omega),Bool.true_and])
      clear q
      go_wp2_with (first|(go_at_call 84;refine (HVM.out _ K8.out.ex).mono ?_;rintro e w2 ⟨rfl,q2⟩))
      go_meet
      case rel=>exact ⟨rfl,rfl,by rw [E.out],K8.out.on q2⟩
   case rest =>
   obtain ⟨rfl,rfl,rfl,K9⟩:=hcut
   clear K8 HVM
   cases t5 with
   | false =>
    go_wp2_with fail
    go_ret
    exact ⟨by rw [HAL.out];simp,K9.out.bel⟩
   | true =>
   go_upto_region 17 with fail
   go_cut [1,3,130] from 7 (fun v1 v3 v130 wx=>v1=.pointer (some ⟨N,0,none⟩)∧v3=.int .i64 x.kind∧v130=.bool (!t6)∧Hid (MayK w N x wx))
   case first =>
    as_aux_lemma =>
     obtain ⟨-,-,-,-,-,-,d6,-⟩:=HC.out _ K9.out
     have HZ:Hid (∀n:Nat,x.eo.length=n→(x.eo≠[]↔0<n)):=hid fun n hn=>by
      rw [←hn]
      cases x.eo<;>simp
     obtain ⟨me,hme⟩:∃me,mayE x.eo=me:=⟨_,rfl⟩
     rw [hme] at HEM H6
     clear hme
     have key:∀(bz:Bool),(decide (x.eo≠[]↔x.kind=4)=bz)→Hid (t6=(bz&&decide (me=0))):=fun bz hbz=>hid (by rw [←H6.out,hbz])
     have KEY:=hid key
     clear key
     obtain ⟨ne,hne⟩:∃n,x.eo.length=n:=⟨_,rfl⟩
     have HNE:=hid hne
     rw [hne] at d6 HEM HEL
     clear hne
     by_cases q:ne=0
     ·subst q
      by_cases r:x.kind=4
      ·have HK4:Hid (x.kind=4):=hid r
       have E:=KEY.out false (decide_eq_false (by rw [HZ.out _ HNE.out];omega))
       have E2:Hid (t6=false):=hid (by rw [E.out];rfl)
       clear KEY E
       go_wp2_with fail
       clear r
       try rw [←HK4.out]
       go_meet
       case rel=>exact ⟨rfl,by first|rfl|simp [*],by rw [E2.out];rfl,K9.out⟩
      ·have E:=KEY.out true (decide_eq_true (by rw [HZ.out _ HNE.out];omega))
       have b4:(x.kind==4)=false:=by rw [beq_eq_false_iff_ne];exact r
       clear r KEY
       by_cases z:me=0
       ·subst z
        have E2:Hid (t6=true):=hid (by rw [E.out];rfl)
        clear E
        go_wp2_with (first|(go_at_call 85;refine (HEM.out _ K9.out.ex).mono ?_;rintro e w2 ⟨rfl,rfl⟩))
        go_meet
        case rel=>exact ⟨rfl,by first|rfl|simp [*],by rw [E2.out];rfl,K9.out⟩
       ·have bz:(me==0)=false:=by rw [beq_eq_false_iff_ne];exact z
        have cz:(me != 0)=true:=by rw [bne_iff_ne];exact z
        have E2:Hid (t6=false):=hid (by rw [E.out,decide_eq_false z];rfl)
        clear z E
        go_wp2_with (first|(go_at_call 85;refine (HEM.out _ K9.out.ex).mono ?_;rintro e w2 ⟨rfl,rfl⟩))
        go_meet
        case rel=>exact ⟨rfl,by first|rfl|simp [*],by rw [E2.out];rfl,K9.out⟩
     ·have qz:(0:Int)<(ne:Int):=by omega
      by_cases r:x.kind=4
      ·have HK4:Hid (x.kind=4):=hid r
       have E:=KEY.out true (decide_eq_true (by rw [HZ.out _ HNE.out];omega))
       clear q KEY
       by_cases z:me=0
       ·subst z
        have E2:Hid (t6=true):=hid (by rw [E.out];rfl)
        clear E
        go_wp2_with (first|(go_at_call 85;refine (HEM.out _ K9.out.ex).mono ?_;rintro e w2 ⟨rfl,rfl⟩))
        clear r
        try rw [←HK4.out]
        go_meet
        case rel=>exact ⟨rfl,by first|rfl|simp [*],by rw [E2.out];rfl,K9.out⟩
       ·have bz:(me==0)=false:=by rw [beq_eq_false_iff_ne];exact z
        have cz:(me != 0)=true:=by rw [bne_iff_ne];exact z
        have E2:Hid (t6=false):=hid (by rw [E.out,decide_eq_false z];rfl)
        clear z E
        go_wp2_with (first|(go_at_call 85;refine (HEM.out _ K9.out.ex).mono ?_;rintro e w2 ⟨rfl,rfl⟩))
        clear r
        try rw [←HK4.out]
        go_meet
        case rel=>exact ⟨rfl,by first|rfl|simp [*],by rw [E2.out];rfl,K9.out⟩
      ·have E:=KEY.out false (decide_eq_false (by rw [HZ.out _ HNE.out];omega))
       have b4:(x.kind==4)=false:=by rw [beq_eq_false_iff_ne];exact r
       have E2:Hid (t6=false):=hid (by rw [E.out];rfl)
       clear q r KEY E
       go_wp2_with fail
       go_meet
       case rel=>exact ⟨rfl,by first|rfl|simp [*],by rw [E2.out];rfl,K9.out⟩
   case rest =>
   obtain ⟨rfl,rfl,rfl,Ka⟩:=hcut
   clear K9 HEM
   cases t6 with
   | false =>
    go_wp2_with fail
    go_ret
    exact ⟨by rw [HAL.out];simp,Ka.out.bel⟩
   | true =>
   as_aux_lemma =>
    obtain ⟨d0,d1,d2,d3,d4,d5,d6,d7,d8,d9⟩:=HC.out _ Ka.out
    have HX2:=hid Ka.out.ex
    obtain ⟨mm,hmm⟩:∃mm,mayM x.po=mm:=⟨_,rfl⟩
    obtain ⟨sm,hsm⟩:∃sm,decide (ansM x.po=x.po)=sm:=⟨_,rfl⟩
    have HS7:Hid (mm=0→t7=(sm&&decide (x.po≠[]→x.kind=2∨x.kind=8∨x.kind=12))):=hid fun hz=>by
     have e:ansM x.po=sortM x.po:=by unfold ansM;rw [hmm,if_pos hz]
     rw [←H7.out,←hsm,e,hmm,decide_eq_true hz,Bool.true_and]
    have HS0:Hid (¬ mm=0→t7=false):=hid fun hz=>by rw [←H7.out,hmm,decide_eq_false hz];rfl
    have HZ:Hid (x.po≠[]↔0<x.po.length):=hid (by cases x.po<;>simp)
    rw [hmm] at HPN
    rw [hsm] at HPS
    clear hmm hsm
    by_cases z:mm=0
    case neg =>
     have E:=hid (HS0.out z)
     have bz:(mm==0)=false:=by rw [beq_eq_false_iff_ne];exact z
     clear z
     go_wp2_with (first|(go_at_call 86;refine (HPN.out _ HX2.out).mono ?_;rintro e w2 ⟨u,rfl,hu,hb2⟩;have K2:=hid (Ka.out.on hb2);clear hb2 hu))
     go_ret
     exact ⟨by rw [HAL.out,HKE1.out,E.out];rfl,K2.out.bel⟩
    have E0:=hid (HS7.out z)
    have bz:(mm==0)=true:=by rw [z];rfl
    clear z
    cases sm with
    | false =>
     have E:Hid (t7=false):=hid (by rw [E0.out];rfl)
     go_wp2_with (first|(go_at_call 86;refine (HPN.out _ HX2.out).mono ?_;rintro e w2 ⟨u,rfl,hu,hb2⟩;have K2:=hid (Ka.out.on hb2);have HU:=hid hu;have HX3:=hid K2.out.ex;obtain ⟨f0,f1,f2,f3,f4,f5,f6,f7,f8,f9⟩:=HC.out _ K2.out;clear hb2 hu)|(go_at_call 23;refine (HPS.out _ _ HX3.out HU.out).mono ?_;rintro e w3 ⟨rfl,hb3⟩;have K3:=hid (K2.out.on hb3);obtain ⟨g0,g1,g2,g3,g4,g5,g6,g7,g8,g9⟩:=HC.out _ K3.out;clear hb3))
     go_ret
     exact ⟨by rw [HAL.out,HKE1.out,E.out];rfl,K3.out.bel⟩
    | true =>
     by_cases p0:x.po.length=0
     case pos =>
      have E:Hid (t7=true):=hid (by rw [E0.out,decide_eq_true (by rw [HZ.out];omega)];rfl)
      have bp:((x.po.length:Int)==0)=true:=by rw [beq_iff_eq];omega
      clear p0
      go_wp2_with (first|(go_at_call 86;refine (HPN.out _ HX2.out).mono ?_;rintro e w2 ⟨u,rfl,hu,hb2⟩;have K2:=hid (Ka.out.on hb2);have HU:=hid hu;have HX3:=hid K2.out.ex;obtain ⟨f0,f1,f2,f3,f4,f5,f6,f7,f8,f9⟩:=HC.out _ K2.out;clear hb2 hu)|(go_at_call 23;refine (HPS.out _ _ HX3.out HU.out).mono ?_;rintro e w3 ⟨rfl,hb3⟩;have K3:=hid (K2.out.on hb3);obtain ⟨g0,g1,g2,g3,g4,g5,g6,g7,g8,g9⟩:=HC.out _ K3.out;clear hb3))
      go_ret
      exact ⟨by rw [HAL.out,HKE1.out,E.out];rfl,K3.out.bel⟩
     have bp:((x.po.length:Int)==0)=false:=by rw [beq_eq_false_iff_ne];omega
     by_cases k2:x.kind=2
     case pos =>
      have E:Hid (t7=true):=hid (by rw [E0.out,decide_eq_true (by intro _;omega)];rfl)
      have b2:(x.kind==2)=true:=by rw [beq_iff_eq];exact k2
      clear p0 k2
      go_wp2_with (first|(go_at_call 86;refine (HPN.out _ HX2.out).mono ?_;rintro e w2 ⟨u,rfl,hu,hb2⟩;have K2:=hid (Ka.out.on hb2);have HU:=hid hu;have HX3:=hid K2.out.ex;obtain ⟨f0,f1,f2,f3,f4,f5,f6,f7,f8,f9⟩:=HC.out _ K2.out;clear hb2 hu)|(go_at_call 23;refine (HPS.out _ _ HX3.out HU.out).mono ?_;rintro e w3 ⟨rfl,hb3⟩;have K3:=hid (K2.out.on hb3);obtain ⟨g0,g1,g2,g3,g4,g5,g6,g7,g8,g9⟩:=HC.out _ K3.out;clear hb3))
      go_ret
      exact ⟨by rw [HAL.out,HKE1.out,E.out];rfl,K3.out.bel⟩
     have b2:(x.kind==2)=false:=by rw [beq_eq_false_iff_ne];exact k2
     by_cases k8:x.kind=8
     case pos =>
      have E:Hid (t7=true):=hid (by rw [E0.out,decide_eq_true (by intro _;omega)];rfl)
      have b8:(x.kind==8)=true:=by rw [beq_iff_eq];exact k8
      clear p0 k8
      go_wp2_with (first|(go_at_call 86;refine (HPN.out _ HX2.out).mono ?_;rintro e w2 ⟨u,rfl,hu,hb2⟩;have K2:=hid (Ka.out.on hb2);have HU:=hid hu;have HX3:=hid K2.out.ex;obtain ⟨f0,f1,f2,f3,f4,f5,f6,f7,f8,f9⟩:=HC.out _ K2.out;clear hb2 hu)|(go_at_call 23;refine (HPS.out _ _ HX3.out HU.out).mono ?_;rintro e w3 ⟨rfl,hb3⟩;have K3:=hid (K2.out.on hb3);obtain ⟨g0,g1,g2,g3,g4,g5,g6,g7,g8,g9⟩:=HC.out _ K3.out;clear hb3))
      go_ret
      exact ⟨by rw [HAL.out,HKE1.out,E.out];rfl,K3.out.bel⟩
     have b8:(x.kind==8)=false:=by rw [beq_eq_false_iff_ne];exact k8
     by_cases k12:x.kind=12
     case pos =>
      have E:Hid (t7=true):=hid (by rw [E0.out,decide_eq_true (by intro _;omega)];rfl)
      have b12:(x.kind==12)=true:=by rw [beq_iff_eq];exact k12
      clear p0 k12
      go_wp2_with (first|(go_at_call 86;refine (HPN.out _ HX2.out).mono ?_;rintro e w2 ⟨u,rfl,hu,hb2⟩;have K2:=hid (Ka.out.on hb2);have HU:=hid hu;have HX3:=hid K2.out.ex;obtain ⟨f0,f1,f2,f3,f4,f5,f6,f7,f8,f9⟩:=HC.out _ K2.out;clear hb2 hu)|(go_at_call 23;refine (HPS.out _ _ HX3.out HU.out).mono ?_;rintro e w3 ⟨rfl,hb3⟩;have K3:=hid (K2.out.on hb3);obtain ⟨g0,g1,g2,g3,g4,g5,g6,g7,g8,g9⟩:=HC.out _ K3.out;clear hb3))
      go_ret
      exact ⟨by rw [HAL.out,HKE1.out,E.out];rfl,K3.out.bel⟩
     have b12:(x.kind==12)=false:=by rw [beq_eq_false_iff_ne];exact k12
     have E:Hid (t7=false):=hid (by rw [E0.out,decide_eq_false (by rw [HZ.out];omega)];rfl)
     clear p0 k2 k8 k12
     go_wp2_with (first|(go_at_call 86;refine (HPN.out _ HX2.out).mono ?_;rintro e w2 ⟨u,rfl,hu,hb2⟩;have K2:=hid (Ka.out.on hb2);have HU:=hid hu;have HX3:=hid K2.out.ex;obtain ⟨f0,f1,f2,f3,f4,f5,f6,f7,f8,f9⟩:=HC.out _ K2.out;clear hb2 hu)|(go_at_call 23;refine (HPS.out _ _ HX3.out HU.out).mono ?_;rintro e w3 ⟨rfl,hb3⟩;have K3:=hid (K2.out.on hb3);obtain ⟨g0,g1,g2,g3,g4,g5,g6,g7,g8,g9⟩:=HC.out _ K3.out;clear hb3))
     go_ret
     exact ⟨by rw [HAL.out,HKE1.out,E.out];rfl,K3.out.bel⟩
end
section
open Go.RowKit Go.Lib
theorem rmay16_any (x:Ex) (w:World) (h:ExIn w x) :
  Calls Tryz.prog 44 #[aggEx x] w fun e w'=>e=.returned (.bool (mayEn x.en))∧Below w.heap.size w w':=by
 by_cases hr:1≤x.kind∧x.kind≤12
 ·exact rmay16_in x w h hr.1 hr.2
 ·exact rmay16_out x w h hr
set_option maxHeartbeats 8000000 in
set_option maxRecDepth 100000 in
theorem rMay16_any (once:Bool) (v:Value) (d:List Ex) (w:World) (hd:RqIn w v d) :
  Calls Tryz.prog 20 #[.agg #[.bool once,v]] w fun e w'=>e=.returned (.bool (mayRq (d.map Ex.en)))∧Below w.heap.size w w':=by
 have HD:=hid hd
 obtain ⟨a,cap,rfl,hrow⟩:=hd.row
 have hlen:=hd.len
 have HR:=hid hrow
 have HAL:Hid (Below w.heap.size w (w.alloc (.cells #[.bool once,.slice a d.length cap] 25))):=hid ((Below.refl _ _).alloc (Nat.le_refl _) _)
 have HBX:Hid ((w.alloc (.cells #[.bool once,.slice a d.length cap] 25)).heap[w.heap.size]? = some (.cells #[.bool once,.slice a d.length cap] 25 (0,0))):=hid (heap_alloc_new w _)
 have HM:Hid (mayRq (d.map Ex.en)=(decide (0<d.length)&&decide (d.length≤16)&&d.all fun x=>mayEn x.en)):=hid (by
  unfold mayRq
  rw [List.length_map,List.all_map]
  rfl)
 clear hd hrow
 go_enter Tryz.func20,Tryz.ntmps20
 go_wp2_with fail
 go_loopg [3] d.length (fun g vi wr=>∃(i:Nat),vi=.int .i64 i∧i≤d.length∧i≤16∧d.length-i≤g∧Hid (Below w.heap.size w wr)∧Hid (wr.heap[w.heap.size]? = some (.cells #[.bool once,.slice a d.length cap] 25 (0,0)))∧Hid ((d.take i).all (fun x=>mayEn x.en)=true))
 case atStart=>exact ⟨0,rfl,by omega,by omega,by omega,HAL,HBX,hid rfl⟩
 case round =>
  obtain ⟨i,rfl,hi,h16,hig,HB,HQ,HA⟩:=hrel
  have r2:wr.cell? ⟨w.heap.size,1,none⟩=some (.slice a d.length cap):=by rw [Lib.cell_of_heap HQ.out];rfl
  by_cases hlt:i<d.length
  ·have HLT:=hid hlt
   have hltz:(i:Int)<(d.length:Int):=by omega
   have hiz:(0:Int)≤(i:Int):=by omega
   by_cases e16:i=16
   ·have bz:((i:Int)==16)=true:=by rw [beq_iff_eq];omega
    have HF:Hid (mayRq (d.map Ex.en)=false):=hid (by rw [HM.out,decide_eq_false (by omega:¬ d.length≤16)];simp)
    clear e16
    go_wp2_with fail
    go_ret
    exact ⟨by first|(rw [HF.out];done)|(rw [HF.out];rfl),HB.out⟩
   have bz:((i:Int)==16)=false:=by rw [beq_eq_false_iff_ne];omega
   obtain ⟨b,off,rfl,hat⟩:∃b off,a=some ⟨b,off,none⟩∧KEx.At w b off d:=by
    rcases HR.out with h|⟨b,off,h1,h2⟩
    ·rw [h] at hlt;simp at hlt
    ·exact ⟨b,off,h1,h2⟩
   obtain ⟨y,hy⟩:∃y,d[i]? = some y:=⟨_,List.getElem?_eq_getElem hlt⟩
   obtain ⟨c0,c1,c2,c3,c4,c5,c6,c7,c8,c9⟩:=row_cellsQ (Kind.at_kept hat HB.out) i y hy
   simp only [Nat.add_zero] at c0
   have hmem:=List.mem_of_getElem? hy
   have HTK:Hid (d.take (i+1)=d.take i++[y]):=hid (by
    obtain ⟨h1,h2⟩:=List.getElem?_eq_some_iff.1 hy
    rw [←h2];exact List.take_succ_eq_append_getElem h1)
   have HMEM:=hid hmem
   have HMY:Hid (Calls Tryz.prog 44 #[.agg #[.int .i64 y.kind,.string y.temp,.string y.ka,.string y.kb,.int .i64 y.iff,.slice y.vp y.vo.length y.vc,.slice y.ep y.eo.length y.ec,.slice y.pp y.po.length y.pc,.int .u64 y.stamp,.int .i64 y.num]] wr fun e w'=>e=.returned (.bool (mayEn y.en))∧Below wr.heap.size wr w'):=hid (rmay16_any y wr ((HD.out.each y HMEM.out).on HB.out))
   have h15:i+1≤16:=by omega
   clear hy hmem hat e16
   cases hm:mayEn y.en with
   | false =>
    have HF:Hid (mayRq (d.map Ex.en)=false):=hid (by
     have:(d.all fun x=>mayEn x.en)=false:=by
      rw [List.all_eq_false]
      exact ⟨y,HMEM.out,by rw [hm];simp⟩
     rw [HM.out,this];simp)
    rw [hm] at HMY
    clear hm
    go_wp2_with (first|(go_at_call 44;refine HMY.out.mono ?_;rintro e w4 ⟨rfl,hb4⟩;have HB4:=hid (HB.out.trans (hb4.mono HB.out.size));clear hb4))
    go_ret
    exact ⟨by first|(rw [HF.out];done)|(rw [HF.out];rfl),HB4.out⟩
   | true =>
    have HA2:Hid ((d.take (i+1)).all (fun x=>mayEn x.en)=true):=hid (by rw [HTK.out,List.all_append,HA.out];simp [hm])
    rw [hm] at HMY
    clear hm
    go_wp2_with (first|(go_at_call 44;refine HMY.out.mono ?_;rintro e w4 ⟨rfl,hb4⟩;have HB4:=hid (HB.out.trans (hb4.mono HB.out.size));have HQ4:=hid ((hb4.block _ (Array.getElem?_eq_some_iff.1 HQ.out).1).trans HQ.out);clear hb4))
    go_roundg (d.length-(i+1))
    case measure=>omega
    exact ⟨i+1,by go_num,HLT.out,h15,Nat.le_refl _,HB4,HQ4,HA2⟩
  ·have hltz:¬ (i:Int)<(d.length:Int):=by omega
   have HF:Hid (mayRq (d.map Ex.en)=decide (0<d.length)):=hid (by
    have:=HA.out
    rw [List.take_of_length_le (by omega)] at this
    rw [HM.out,this,decide_eq_true (by omega:d.length≤16),Bool.and_true,Bool.and_true])
   go_wp2_with fail
   go_ret
   exact ⟨by rw [HF.out];rfl,HB.out⟩
end
section
open Go.RowKit Go.Lib
theorem m0B:mayB ([]:List Fld)=true:=by decide
theorem m0E:mayE ([]:List Ed)=0:=by decide
theorem m0M:mayM ([]:List Tm)=0:=by decide
theorem s0M:sortM ([]:List Tm)=[]:=rfl
theorem mayEn_of {e:En} (h:MayP e):mayEn e=true:=by
 unfold mayEn
 simp only [Bool.and_eq_true,Bool.or_eq_true,decide_eq_true_eq]
 exact ⟨⟨⟨⟨⟨⟨⟨⟨⟨⟨⟨⟨h.k1,h.k2⟩,h.key⟩,h.tmp⟩,h.iff⟩,h.num⟩,h.stamp⟩,h.val⟩,h.mayv⟩,h.eds⟩,h.maye⟩,⟨h.mayp,h.srt⟩⟩,h.pred⟩
theorem mayO_parts' {x:Ex} (h:mayO x=true):(1≤x.kind∧x.kind≤12)∧(shapeN x.kind.toNat).all (fitPt x.en)=true∧(leftE x (shapeN x.kind.toNat)).en=(zeroEx 0).en:=by
 unfold mayO at h
 simp only [Bool.and_eq_true,decide_eq_true_eq] at h
 exact ⟨h.1.1,h.1.2,h.2⟩
set_option maxHeartbeats 4000000 in
theorem mayO_is (x:Ex):mayO x=mayEn x.en:=by
 by_cases hr:1≤x.kind∧x.kind≤12
 case neg =>
  have h1:mayO x=false:=by unfold mayO;rw [decide_eq_false hr];rfl
  have h2:mayEn x.en=false:=by
   cases hm:mayEn x.en with
   | false=>rfl
   | true=>exact absurd ⟨(mayEn_parts hm).k1,(mayEn_parts hm).k2⟩ hr
  rw [h1,h2]
 obtain ⟨k,t,a,b,i,vp,vc,vo,ep,ec,eo,pp,pc,po,s,n⟩:=x
 simp only at hr
 have hk:k=1∨k=2∨k=3∨k=4∨k=5∨k=6∨k=7∨k=8∨k=9∨k=10∨k=11∨k=12:=by omega
 clear hr
 rw [Bool.eq_iff_iff]
 constructor
 ·intro h
  obtain ⟨hr,hf,hz⟩:=mayO_parts' h
  apply mayEn_of
  rcases hk with rfl|rfl|rfl|rfl|rfl|rfl|rfl|rfl|rfl|rfl|rfl|rfl
  all_goals
   simp [shapeN,fitPt,leftE,wout,Ex.en,zeroEx,normalB] at hf hz
   constructor<;>simp_all [Ex.en,keyEn,typedK,m0B,m0E,m0M,s0M]
 ·intro h
  have hp:=mayEn_parts h
  obtain ⟨h1,h2,h3,h4,h5,h6,h7,h8,h9,h10,h11,h12,h13,h14⟩:=hp
  unfold mayO
  rcases hk with rfl|rfl|rfl|rfl|rfl|rfl|rfl|rfl|rfl|rfl|rfl|rfl
  all_goals
   simp [Ex.en,keyEn,typedK] at h1 h2 h3 h4 h5 h6 h7 h8 h9 h10 h11 h12 h13 h14
   simp [shapeN,fitPt,leftE,wout,Ex.en,zeroEx,normalB]
   simp_all
   try omega
   try exact of_decide_eq_true h3.1
end
section
open Go.RowKit Go.Lib
def Good (w:List (List UInt8)):Prop:=∀x∈w,x≠[]∧(32:UInt8) ∉ x
theorem Good.tail {x:List UInt8} {w:List (List UInt8)} (h:Good (x::w)):Good w:=fun y hy=>h y (List.mem_cons_of_mem _ hy)
theorem Good.drop {w:List (List UInt8)} (h:Good w) (n:Nat):Good (w.drop n):=fun y hy=>h y (List.mem_of_mem_drop hy)
theorem readP1 (e:En) (x:List UInt8):readP e 1 x=if x=[]∨tempB (untag x)=true then some { e with temp:=⟨(untag x).toArray⟩ } else none:=by unfold readP;simp
theorem part_key (ps:List Nat) (e:En) (w:List (List UInt8)):partsR (2::ps) e w=match w with | []=>none|x::w'=>(keyR x).bind fun k=>partsR ps { e with ka:=k.1,kb:=k.2 } w':=by
 cases w with
 | nil=>rfl
 | cons x w =>
  have hs:spanP (x::w) 2=1:=rfl
  rw [partsR,hs,if_neg (by simp)]
  simp only [List.take_succ_cons,List.take_zero,List.drop_succ_cons,List.drop_zero,joinW_one]
  have hr:readP e 2 x=(keyR x).map fun k=>{ e with ka:=k.1,kb:=k.2 }:=by unfold readP;simp
  rw [hr]
  cases keyR x<;>rfl
theorem part_typ (ps:List Nat) (e:En) (w:List (List UInt8)):partsR (3::ps) e w=match w with | []=>none|x::w'=>if typeB x=true then partsR ps { e with ka:=⟨x.toArray⟩ } w' else none:=by
 cases w with
 | nil=>rfl
 | cons x w =>
  have hs:spanP (x::w) 3=1:=rfl
  rw [partsR,hs,if_neg (by simp)]
  simp only [List.take_succ_cons,List.take_zero,List.drop_succ_cons,List.drop_zero,joinW_one]
  have hr:readP e 3 x=if typeB x=true then some { e with ka:=⟨x.toArray⟩ } else none:=by unfold readP;simp
  rw [hr]
  split<;>rfl
theorem part_num (ps:List Nat) (e:En) (w:List (List UInt8)):partsR (9::ps) e w=match w with | []=>none|x::w'=>(numL 999999999 x).bind fun n=>partsR ps { e with num:=(n:Int) } w':=by
 cases w with
 | nil=>rfl
 | cons x w =>
  have hs:spanP (x::w) 9=1:=rfl
  rw [partsR,hs,if_neg (by simp)]
  simp only [List.take_succ_cons,List.take_zero,List.drop_succ_cons,List.drop_zero,joinW_one]
  have hr:readP e 9 x=(numL 999999999 x).map fun (n:Nat)=>{ e with num:=(n:Int) }:=by unfold readP;simp
  rw [hr]
  cases numL 999999999 x<;>rfl
theorem part_stp (ps:List Nat) (e:En) (w:List (List UInt8)):partsR (10::ps) e w=match w with | []=>none|x::w'=>(numL 18446744073709551615 x).bind fun n=>partsR ps { e with stamp:=(n:Int) } w':=by
 cases w with
 | nil=>rfl
 | cons x w =>
  have hs:spanP (x::w) 10=1:=rfl
  rw [partsR,hs,if_neg (by simp)]
  simp only [List.take_succ_cons,List.take_zero,List.drop_succ_cons,List.drop_zero,joinW_one]
  have hr:readP e 10 x=(numL 18446744073709551615 x).map fun (n:Nat)=>{ e with stamp:=(n:Int) }:=by unfold readP;simp
  rw [hr]
  cases numL 18446744073709551615 x<;>rfl
theorem part_ask (ps:List Nat) (e:En) (w:List (List UInt8)):partsR (6::ps) e w=match w with | []=>none|x::w'=>if x=[63] then partsR ps e w' else none:=by
 cases w with
 | nil=>rfl
 | cons x w =>
  have hs:spanP (x::w) 6=1:=rfl
  rw [partsR,hs,if_neg (by simp)]
  simp only [List.take_succ_cons,List.take_zero,List.drop_succ_cons,List.drop_zero,joinW_one]
  have hr:readP e 6 x=if x=[63] then some e else none:=by unfold readP;simp
  rw [hr]
  split<;>rfl
theorem part_prd (ps:List Nat) (e:En) (w:List (List UInt8)) (hw:Good w):partsR (7::ps) e w=(prdR w).bind fun v=>partsR ps { e with pred:=v } []:=by
 have hs:spanP w 7=w.length:=rfl
 rw [partsR,hs,if_neg (by omega),List.take_length,List.drop_length]
 have hr:readP e 7 (joinW w)=(prdR (wordsAns (joinW w))).map fun v=>{ e with pred:=v }:=by unfold readP;simp
 rw [hr,words_join hw]
 cases prdR w<;>rfl
theorem part_eds (ps:List Nat) (e:En) (w:List (List UInt8)) (hw:Good w):partsR (8::ps) e w=(edsR w).bind fun v=>if v=[] then none else partsR ps { e with eds:=v } []:=by
 have hs:spanP w 8=w.length:=rfl
 rw [partsR,hs,if_neg (by omega),List.take_length,List.drop_length]
 have hr:readP e 8 (joinW w)=(edsR (wordsAns (joinW w))).bind fun v=>if v=[] then none else some { e with eds:=v }:=by unfold readP;simp
 rw [hr,words_join hw]
 cases edsR w with
 | none=>rfl
 | some v =>
  simp only [Option.bind_some]
  split<;>rfl
theorem part_val (ps:List Nat) (e:En) (w:List (List UInt8)) (hw:Good w):partsR (5::ps) e w=(valR (w.takeWhile fun x=>decide (x≠[63]))).bind fun v=>partsR ps { e with val:=v } (w.dropWhile fun x=>decide (x≠[63])):=by
 have hs:spanP w 5=(w.takeWhile fun x=>decide (x≠[63])).length:=rfl
 rw [partsR,hs,if_neg (by have:=while_len_all (w:=w);omega),take_while,drop_while]
 have hg:Good (w.takeWhile fun x=>decide (x≠[63])):=fun y hy=>hw y ((List.takeWhile_sublist _).mem hy)
 have hr:readP e 5 (joinW (w.takeWhile fun x=>decide (x≠[63])))=(valR (wordsAns (joinW (w.takeWhile fun x=>decide (x≠[63]))))).map fun v=>{ e with val:=v }:=by unfold readP;simp
 rw [hr,words_join hg]
 cases valR (w.takeWhile fun x=>decide (x≠[63]))<;>rfl
theorem part_tmp (ps:List Nat) (e:En) (w:List (List UInt8)):partsR (1::ps) e w=match w with
  | (64::t)::w'=>if tempB t=true then partsR ps { e with temp:=⟨t.toArray⟩ } w' else none
  | w=>partsR ps { e with temp:=⟨#[]⟩ } w:=by
 have h0:∀w:List (List UInt8),spanP w 1=0→partsR (1::ps) e w=partsR ps { e with temp:=⟨#[]⟩ } w:=fun w hs=>by
  rw [partsR,hs,if_neg (by omega),List.take_zero,List.drop_zero,joinW_nil,readP1,if_pos (Or.inl rfl)]
  rfl
 match w with
 | []=>exact h0 _ rfl
 | []::w'=>exact h0 _ rfl
 | (c::t)::w' =>
  by_cases hc:c=64
  ·subst hc
   have hs:spanP ((64::t)::w') 1=1:=rfl
   rw [partsR,hs,if_neg (by simp)]
   simp only [List.take_succ_cons,List.take_zero,List.drop_succ_cons,List.drop_zero,joinW_one]
   have hu:untag (64::t)=t:=rfl
   rw [readP1,hu]
   by_cases ht:tempB t=true
   ·rw [if_pos (Or.inr ht),if_pos ht];rfl
   ·have hno:¬ ((64::t:List UInt8)=[]∨tempB t=true):=fun q=>q.elim (fun q=>by cases q) ht
    rw [if_neg hno,if_neg ht];rfl
  ·have hs:spanP ((c::t)::w') 1=0:=by
    show (if ((some (c::t)).bind List.head?)=some 64 then 1 else 0)=0
    rw [if_neg (by simpa using hc)]
   rw [h0 _ hs]
   split
   ·rename_i heq;cases heq;exact absurd rfl hc
   ·rfl
theorem part_if (ps:List Nat) (e:En) (w:List (List UInt8)) (hw:Good w):partsR (4::ps) e w =
  if w[0]? = some [105,102] then (smallR w[1]?).bind fun n=>if n=0 then none else partsR ps { e with iff:=(n:Int) } (w.drop 2) else partsR ps { e with iff:=0 } w:=by
 have hr:∀x,readP e 4 x=(condL x).map fun (n:Nat)=>{ e with iff:=(n:Int) }:=fun x=>by unfold readP;simp
 by_cases h:w[0]? = some [105,102]
 ·rw [if_pos h]
  match w,h with
  | [x],h =>
   have hx:x=[105,102]:=by simpa using h
   subst hx
   rfl
  | x::y::w',h =>
   have hx:x=[105,102]:=by simpa using h
   subst hx
   have hs:spanP ([105,102]::y::w') 4=2:=rfl
   rw [partsR,hs,if_neg (by simp)]
   simp only [List.take_succ_cons,List.take_zero,List.drop_succ_cons,List.drop_zero,joinW_two]
   have hc:condL ([105,102]++32::y)=(numL 999999999 y).bind fun n=>if 0<n then some n else none:=by
    unfold condL
    rw [if_neg (by simp)]
    have hu:unif ([105,102]++32::y)=y:=by simp [unif,List.isPrefixOf]
    rw [hu]
   rw [hr,hc]
   show _=(numL 999999999 y).bind _
   cases numL 999999999 y with
   | none=>rfl
   | some n =>
    simp only [Option.bind_some]
    by_cases hn:n=0
    ·subst hn;rfl
    ·rw [if_pos (by omega),if_neg hn];rfl
 ·rw [if_neg h]
  have hs:spanP w 4=0:=by
   show (if w.head? = some [105,102] then 2 else 0)=0
   rw [if_neg]
   rw [List.head?_eq_getElem?];exact h
  rw [partsR,hs,if_neg (by omega),List.take_zero,List.drop_zero,joinW_nil,hr]
  rfl
theorem pk_nil (ps:List Nat) (e:En):partsR (2::ps) e []=none:=part_key ps e []
theorem pk_cons (ps:List Nat) (e:En) (x:List UInt8) (w:List (List UInt8)):partsR (2::ps) e (x::w)=(keyR x).bind fun k=>partsR ps { e with ka:=k.1,kb:=k.2 } w:=part_key ps e (x::w)
theorem pt_nil (ps:List Nat) (e:En):partsR (3::ps) e []=none:=part_typ ps e []
theorem pt_cons (ps:List Nat) (e:En) (x:List UInt8) (w:List (List UInt8)):partsR (3::ps) e (x::w)=if typeB x=true then partsR ps { e with ka:=⟨x.toArray⟩ } w else none:=part_typ ps e (x::w)
theorem pn_nil (ps:List Nat) (e:En):partsR (9::ps) e []=none:=part_num ps e []
theorem pn_cons (ps:List Nat) (e:En) (x:List UInt8) (w:List (List UInt8)):partsR (9::ps) e (x::w)=(numL 999999999 x).bind fun n=>partsR ps { e with num:=(n:Int) } w:=part_num ps e (x::w)
theorem ps_nil (ps:List Nat) (e:En):partsR (10::ps) e []=none:=part_stp ps e []
theorem ps_cons (ps:List Nat) (e:En) (x:List UInt8) (w:List (List UInt8)):partsR (10::ps) e (x::w)=(numL 18446744073709551615 x).bind fun n=>partsR ps { e with stamp:=(n:Int) } w:=part_stp ps e (x::w)
theorem pa_nil (ps:List Nat) (e:En):partsR (6::ps) e []=none:=part_ask ps e []
theorem pa_cons (ps:List Nat) (e:En) (x:List UInt8) (w:List (List UInt8)):partsR (6::ps) e (x::w)=if x=[63] then partsR ps e w else none:=part_ask ps e (x::w)
end
section
open Go.RowKit Go.Lib
def fil (o:Option En):Option En:=o.bind fun e=>if mayEn e=true then some e else none
theorem fil_yes {e:En} (h:mayEn e=true):fil (some e)=some e:=by unfold fil;rw [Option.bind_some,if_pos h]
theorem fil_no {e:En} (h:MayP e→False):fil (some e)=none:=by
 unfold fil;rw [Option.bind_some,if_neg fun q=>h (mayEn_parts q)]
def finO (o:Option (En × List (List UInt8))):Option En:=o.bind fun r=>if r.2=[] then some r.1 else none
theorem temp_hi (k:Int) (hk:2<k) (w:List (List UInt8)):tempT (zeroEn k) w=stampT (zeroEn k) w:=tempT_no _ _ fun h=>by
 exfalso
 have h':k≤2:=h
 omega
theorem stamp_lo (e:En) (h:¬ 10<e.kind) (w:List (List UInt8)):stampT e w=keyT e w:=by unfold stampT;rw [if_neg h]
theorem part_end (e:En) (w:List (List UInt8)):finO (partsR [] e w)=if w=[] then some e else none:=rfl
theorem finO_none:finO none=none:=rfl
theorem key_side (e:En) (hK:typedK e.kind=false) (ps:List Nat) (w:List (List UInt8))
  (h:∀(a b:ByteArray) (w:List (List UInt8)),Good w→keyB a b=true→finO (partsR ps { e with ka:=a,kb:=b } w)=fil (tailR { e with ka:=a,kb:=b } w)) (hw:Good w) :
  finO (partsR (2::ps) e w)=fil (keyT e w):=by
 cases w with
 | nil=>rw [pk_nil];rfl
 | cons x w =>
  rw [pk_cons,keyT_cons,hK]
  cases hx:keyR x with
  | none=>rfl
  | some k=>exact h k.1 k.2 w hw.tail (keyR_key hx)
theorem typ_side (e:En) (hK:typedK e.kind=true) (ps:List Nat) (w:List (List UInt8))
  (h:∀(x:List UInt8) (w:List (List UInt8)),Good w→(if typeB x=true then finO (partsR ps { e with ka:=⟨x.toArray⟩ } w) else none)=fil (tailR { e with ka:=⟨x.toArray⟩ } w)) (hw:Good w) :
  finO (partsR (3::ps) e w)=fil (keyT e w):=by
 cases w with
 | nil=>rw [pt_nil];rfl
 | cons x w =>
  rw [pt_cons,keyT_cons,hK,if_pos rfl,←h x w hw.tail]
  split<;>rfl
theorem t6 (e:En) (hz:MayP e) (hk:e.kind=6) (w:List (List UInt8)):finO (partsR [] e w)=fil (tailR e w):=by
 rw [part_end]
 have ht:tailR e w=if w=[] then some e else none:=by unfold tailR;simp [hk]
 rw [ht]
 split
 ·rw [fil_yes (mayEn_of hz)]
 ·rfl
theorem e6 (w:List (List UInt8)) (hw:Good w):finO (partsR [2] (zeroEn 6) w)=fil (tempT (zeroEn 6) w):=by
 rw [temp_hi 6 (by decide),stamp_lo _ (by decide)]
 refine key_side _ (by rfl) [] w (fun a b w hw hk=>t6 _ ?_ rfl w) hw
 constructor<;>simp_all [zeroEn,keyEn,typedK,m0B,m0E,m0M,s0M]
theorem e7 (w:List (List UInt8)) (hw:Good w):finO (partsR [2,9] (zeroEn 7) w)=fil (tempT (zeroEn 7) w):=by
 rw [temp_hi 7 (by decide),stamp_lo _ (by decide)]
 refine key_side _ (by rfl) [9] w (fun a b w hw hk=>?_) hw
 cases w with
 | nil=>rw [pn_nil];simp [tailR,zeroEn,finO,fil]
 | cons y w =>
  rw [pn_cons]
  cases hn:numL 999999999 y with
  | none =>
   simp only [Option.bind_none,finO_none]
   cases w<;>simp [tailR,zeroEn,smallR,hn,fil]
  | some n =>
   have hle:=numL_le hn
   rw [Option.bind_some,part_end]
   cases w with
   | nil =>
    simp [tailR,zeroEn,smallR,hn]
    rw [fil_yes]
    apply mayEn_of
    constructor<;>simp_all [keyEn,typedK,m0B,m0E,m0M,s0M]<;>omega
   | cons z w=>simp [tailR,zeroEn,fil]
theorem e9 (w:List (List UInt8)) (hw:Good w):finO (partsR [2,10] (zeroEn 9) w)=fil (tempT (zeroEn 9) w):=by
 rw [temp_hi 9 (by decide),stamp_lo _ (by decide)]
 refine key_side _ (by rfl) [10] w (fun a b w hw hk=>?_) hw
 cases w with
 | nil=>rw [ps_nil];simp [tailR,zeroEn,finO,fil]
 | cons y w =>
  rw [ps_cons]
  cases hn:numL 18446744073709551615 y with
  | none =>
   simp only [Option.bind_none,finO_none]
   cases w<;>simp [tailR,zeroEn,stampR,hn,fil]
  | some n =>
   rw [Option.bind_some,part_end]
   cases w with
   | nil =>
    simp [tailR,zeroEn,stampR,hn]
    rw [fil_yes]
    apply mayEn_of
    constructor<;>simp_all [keyEn,typedK,m0B,m0E,m0M,s0M]
   | cons z w=>simp [tailR,zeroEn,fil]
theorem e10 (w:List (List UInt8)) (hw:Good w):finO (partsR [3,10] (zeroEn 10) w)=fil (tempT (zeroEn 10) w):=by
 rw [temp_hi 10 (by decide),stamp_lo _ (by decide)]
 refine typ_side _ (by rfl) [10] w (fun x w hw=>?_) hw
 cases w with
 | nil=>rw [ps_nil];simp [tailR,zeroEn,finO,fil]
 | cons y w =>
  rw [ps_cons]
  cases hn:numL 18446744073709551615 y with
  | none =>
   simp only [Option.bind_none,finO_none]
   cases w<;>simp [tailR,zeroEn,stampR,hn,fil]
  | some n =>
   rw [Option.bind_some,part_end]
   cases w with
   | nil =>
    simp [tailR,zeroEn,stampR,hn]
    by_cases ht:typeB x=true
    ·rw [if_pos ht,fil_yes]
     apply mayEn_of
     constructor<;>simp_all [keyEn,typedK,m0B,m0E,m0M,s0M]
    ·rw [if_neg ht,fil_no]
     intro h
     have:=h.key
     simp_all [keyEn,typedK]
   | cons z w=>simp [tailR,zeroEn,fil]
theorem e8 (w:List (List UInt8)) (hw:Good w):finO (partsR [3,7] (zeroEn 8) w)=fil (tempT (zeroEn 8) w):=by
 rw [temp_hi 8 (by decide),stamp_lo _ (by decide)]
 refine typ_side _ (by rfl) [7] w (fun x w hw=>?_) hw
 rw [part_prd _ _ _ hw]
 cases hp:prdR w with
 | none=>simp [tailR,restR,zeroEn,hp,fil,finO]
 | some p =>
  obtain ⟨h1,h2⟩:=prd_may hp
  rw [Option.bind_some,part_end]
  simp [tailR,restR,zeroEn,hp]
  by_cases ht:typeB x=true
  ·rw [if_pos ht,fil_yes]
   apply mayEn_of
   constructor<;>simp_all [keyEn,typedK,m0B,m0E]
  ·rw [if_neg ht,fil_no]
   intro h
   have:=h.key
   simp_all [keyEn,typedK]
theorem e11 (w:List (List UInt8)) (hw:Good w):finO (partsR [10,2] (zeroEn 11) w)=fil (tempT (zeroEn 11) w):=by
 rw [temp_hi 11 (by decide)]
 cases w with
 | nil=>rw [ps_nil];simp [stampT,zeroEn,stampR,finO,fil]
 | cons y w =>
  rw [ps_cons]
  cases hn:numL 18446744073709551615 y with
  | none=>simp [stampT,zeroEn,stampR,hn,finO,fil]
  | some n =>
   have hst:stampT (zeroEn 11) (y::w)=keyT { zeroEn 11 with stamp:=(n:Int) } w:=by simp [stampT,zeroEn,stampR,hn]
   rw [Option.bind_some,hst]
   refine key_side _ (by rfl) [] w (fun a b w hw hk=>?_) hw.tail
   rw [part_end]
   simp [tailR,zeroEn]
   split
   ·rw [fil_yes]
    apply mayEn_of
    constructor<;>simp_all [keyEn,typedK,m0B,m0E,m0M,s0M]
   ·rfl
theorem e12 (w:List (List UInt8)) (hw:Good w):finO (partsR [10,3,7] (zeroEn 12) w)=fil (tempT (zeroEn 12) w):=by
 rw [temp_hi 12 (by decide)]
 cases w with
 | nil=>rw [ps_nil];simp [stampT,zeroEn,stampR,finO,fil]
 | cons y w =>
  rw [ps_cons]
  cases hn:numL 18446744073709551615 y with
  | none=>simp [stampT,zeroEn,stampR,hn,finO,fil]
  | some n =>
   have hst:stampT (zeroEn 12) (y::w)=keyT { zeroEn 12 with stamp:=(n:Int) } w:=by simp [stampT,zeroEn,stampR,hn]
   rw [Option.bind_some,hst]
   refine typ_side _ (by rfl) [7] w (fun x w hw=>?_) hw.tail
   rw [part_prd _ _ _ hw]
   cases hp:prdR w with
   | none=>simp [tailR,restR,zeroEn,hp,fil,finO]
   | some p =>
    obtain ⟨h1,h2⟩:=prd_may hp
    rw [Option.bind_some,part_end]
    simp [tailR,restR,zeroEn,hp]
    by_cases ht:typeB x=true
    ·rw [if_pos ht,fil_yes]
     apply mayEn_of
     constructor<;>simp_all [keyEn,typedK,m0B,m0E]
    ·rw [if_neg ht,fil_no]
     intro h
     have:=h.key
     simp_all [keyEn,typedK]
theorem if_side (e:En) (h3:3≤e.kind) (h5:e.kind≤5) (h0:e.iff=0) (ps:List Nat) (w:List (List UInt8)) (hw:Good w)
  (h:∀(n:Nat) (w:List (List UInt8)),n≤999999999→Good w→finO (partsR ps { e with iff:=(n:Int) } w)=fil (restR { e with iff:=(n:Int) } w)) :
  finO (partsR (4::ps) e w)=fil (tailR e w):=by
 have ht:tailR e w=if w[0]? = some [105,102] then (smallR w[1]?).bind fun n=>if n=0 then none else restR { e with iff:=(n:Int) } (w.drop 2) else restR e w:=by
  unfold tailR
  rw [if_neg (by omega),if_neg (by omega),if_neg (by omega)]
  by_cases hc:w[0]? = some [105,102]
  ·rw [if_pos ⟨h3,h5,hc⟩,if_pos hc]
  ·rw [if_neg (fun q=>hc q.2.2),if_neg hc]
 rw [part_if _ _ _ hw,ht]
 by_cases hc:w[0]? = some [105,102]
 ·rw [if_pos hc,if_pos hc]
  cases hn:smallR w[1]? with
  | none=>rfl
  | some n =>
   simp only [Option.bind_some]
   by_cases hz:n=0
   ·rw [if_pos hz,if_pos hz];rfl
   ·rw [if_neg hz,if_neg hz]
    have hle:n≤999999999:=by
     unfold smallR at hn
     cases hx:w[1]? with
     | none=>rw [hx] at hn;cases hn
     | some x=>rw [hx] at hn;exact numL_le hn
    exact h n _ hle (hw.drop 2)
 ·rw [if_neg hc,if_neg hc]
  have:=h 0 w (by omega) hw
  have e0:{ e with iff:=((0:Nat):Int) }=e:=by cases e;simp at h0;subst h0;rfl
  rw [e0] at this
  have e1:{ e with iff:=(0:Int) }=e:=by cases e;simp at h0;subst h0;rfl
  rw [e1];exact this
theorem e5 (w:List (List UInt8)) (hw:Good w):finO (partsR [2,4] (zeroEn 5) w)=fil (tempT (zeroEn 5) w):=by
 rw [temp_hi 5 (by decide),stamp_lo _ (by decide)]
 refine key_side _ (by rfl) [4] w (fun a b w hw hk=>if_side _ (by show (3:Int)≤5;decide) (by show (5:Int)≤5;decide) rfl [] w hw fun n w hn hw=>?_) hw
 rw [part_end]
 simp [restR,zeroEn]
 split
 ·rw [fil_yes]
  apply mayEn_of
  constructor<;>simp_all [keyEn,typedK,m0B,m0E,m0M,s0M]<;>omega
 ·rfl
theorem e4 (w:List (List UInt8)) (hw:Good w):finO (partsR [2,4,8] (zeroEn 4) w)=fil (tempT (zeroEn 4) w):=by
 rw [temp_hi 4 (by decide),stamp_lo _ (by decide)]
 refine key_side _ (by rfl) [4,8] w (fun a b w hw hk=>if_side _ (by show (3:Int)≤4;decide) (by show (4:Int)≤5;decide) rfl [8] w hw fun n w hn hw=>?_) hw
 rw [part_eds _ _ _ hw]
 cases hp:edsR w with
 | none=>simp [restR,zeroEn,hp,fil,finO]
 | some p =>
  have h1:=eds_may hp
  simp [restR,zeroEn,hp]
  by_cases hz:p=[]
  ·rw [if_pos hz,fil_no]
   ·rfl
   ·intro h
    have:=h.eds
    simp_all
  ·rw [if_neg hz,part_end,if_pos rfl,fil_yes]
   apply mayEn_of
   constructor<;>simp_all [keyEn,typedK,m0B,m0M,s0M]<;>omega
theorem val_side (w:List (List UInt8)) (hw:Good w) (e:En) (hk:e.kind=1∨e.kind=3)
  (h:∀v,mayB v=true→mayEn { e with val:=v }=true):finO (partsR [5] e w)=fil (restR e w):=by
 rw [part_val _ _ _ hw]
 have hr:restR e w=(valR w).map fun v=>{ e with val:=v }:=by unfold restR;rw [if_pos hk]
 rw [hr]
 by_cases hm:[63]∈w
 ·rw [valR_no hm]
  obtain ⟨r,hd⟩:=drop_while_at hm
  rw [hd]
  cases valR (w.takeWhile fun x=>decide (x≠[63]))<;>rfl
 ·rw [while_all hm,drop_while_no hm]
  cases hv:valR w with
  | none=>rfl
  | some v =>
   rw [Option.bind_some,part_end,if_pos rfl,Option.map_some,fil_yes (h v (val_may hv))]
theorem e3 (w:List (List UInt8)) (hw:Good w):finO (partsR [2,4,5] (zeroEn 3) w)=fil (tempT (zeroEn 3) w):=by
 rw [temp_hi 3 (by decide),stamp_lo _ (by decide)]
 refine key_side _ (by rfl) [4,5] w (fun a b w hw hk=>if_side _ (by show (3:Int)≤3;decide) (by show (3:Int)≤5;decide) rfl [5] w hw fun n w hn hw=>val_side w hw _ (Or.inr rfl) fun v hv=>?_) hw
 apply mayEn_of
 constructor<;>simp_all [zeroEn,keyEn,typedK,m0E,m0M,s0M]<;>omega
theorem tmp_side (k:Int) (h2:k≤2) (ps:List Nat) (w:List (List UInt8)) (hw:Good w)
  (h:∀(t:ByteArray) (w:List (List UInt8)),Good w→(if t=⟨#[]⟩∨tempB t.data.toList=true then finO (partsR (2::ps) { zeroEn k with temp:=t } w) else none)=fil (keyT { zeroEn k with temp:=t } w)) :
  finO (partsR (1::ps.cons 2) (zeroEn k) w)=fil (tempT (zeroEn k) w):=by
 have hlo:∀e:En,e.kind=k→∀w,stampT e w=keyT e w:=fun e he w=>stamp_lo e (by rw [he];omega) w
 rw [part_tmp]
 have h0:=h ⟨#[]⟩ w hw
 rw [if_pos (Or.inl rfl)] at h0
 match w,hw,h0 with
 | [],hw,h0=>rw [tempT_no _ _ (fun _ t w' q=>by cases q),hlo _ rfl];exact h0
 | []::w',hw,h0=>rw [tempT_no _ _ (fun _ t w'' q=>by cases q),hlo _ rfl];exact h0
 | (c::t)::w',hw,h0 =>
  by_cases hc:c=64
  ·subst hc
   have ht:tempT (zeroEn k) ((64::t)::w')=if t=[] then none else keyT { zeroEn k with temp:=⟨t.toArray⟩ } w':=by
    show (if (zeroEn k).kind≤2 then if t=[] then none else stampT { zeroEn k with temp:=⟨t.toArray⟩ } w' else stampT (zeroEn k) ((64::t)::w'))=_
    rw [if_pos (show (zeroEn k).kind≤2 from h2),hlo _ rfl]
   rw [ht]
   by_cases hz:t=[]
   ·subst hz;rfl
   ·rw [if_neg hz]
    have h1:=h ⟨t.toArray⟩ w' hw.tail
    rw [←h1]
    have hne:¬ (⟨t.toArray⟩:ByteArray)=⟨#[]⟩:=fun q=>hz (by have:=congrArg (fun b:ByteArray=>b.data.toList) q;simpa using this)
    by_cases hb:tempB t=true
    ·simp [hb]
    ·simp [hb,hne];rfl
  ·rw [tempT_no _ _ (fun _ t' w'' q=>by injection q with q1;injection q1 with q1;exact hc q1),hlo _ rfl]
   split
   ·rename_i heq;injection heq with q1;injection q1 with q1;exact absurd q1 hc
   ·exact h0
theorem e1 (w:List (List UInt8)) (hw:Good w):finO (partsR [1,2,5] (zeroEn 1) w)=fil (tempT (zeroEn 1) w):=by
 refine tmp_side 1 (by decide) [5] w hw fun t w hw=>?_
 by_cases ht:t=⟨#[]⟩∨tempB t.data.toList=true
 ·rw [if_pos ht]
  refine key_side _ (by rfl) [5] w (fun a b w hw hk=>?_) hw
  have htl:∀e:En,e.kind=1→tailR e w=restR e w:=fun e he=>by unfold tailR;simp [he]
  rw [htl _ rfl]
  refine val_side w hw _ (Or.inl rfl) fun v hv=>?_
  apply mayEn_of
  constructor<;>simp_all [zeroEn,keyEn,typedK,m0E,m0M,s0M]
 ·rw [if_neg ht]
  cases w with
  | nil=>rfl
  | cons x w =>
   rw [keyT_cons]
   cases hx:keyR x with
   | none=>rfl
   | some k =>
    have htl:∀e:En,e.kind=1→tailR e w=restR e w:=fun e he=>by unfold tailR;simp [he]
    show none=fil (tailR { zeroEn 1 with temp:=t,ka:=k.1,kb:=k.2 } w)
    rw [htl _ rfl]
    have hrs:∀e:En,e.kind=1→restR e w=(valR w).map fun v=>{ e with val:=v }:=fun e he=>by unfold restR;rw [if_pos (Or.inl he)]
    rw [hrs _ rfl]
    cases hv:valR w with
    | none=>rfl
    | some v =>
     rw [Option.map_some,fil_no]
     intro h
     have:=h.tmp
     simp_all
theorem e2 (w:List (List UInt8)) (hw:Good w):finO (partsR [1,2,5,6,7] (zeroEn 2) w)=fil (tempT (zeroEn 2) w):=by
 refine tmp_side 2 (by decide) [5,6,7] w hw fun t w hw=>?_
 have hrest:∀(e:En) (w:List (List UInt8)),e.kind=2→tailR e w=if [63]∈w then (valR (w.takeWhile fun x=>decide (x≠[63]))).bind fun v=>(prdR ((w.dropWhile fun x=>decide (x≠[63])).drop 1)).map fun p=>{ e with val:=v,pred:=p } else none:=fun e w he=>by
  unfold tailR restR;simp [he]
 by_cases ht:t=⟨#[]⟩∨tempB t.data.toList=true
 ·rw [if_pos ht]
  refine key_side _ (by rfl) [5,6,7] w (fun a b w hw hk=>?_) hw
  rw [hrest _ w rfl,part_val _ _ _ hw]
  by_cases hm:[63]∈w
  ·rw [if_pos hm]
   obtain ⟨r,hd⟩:=drop_while_at hm
   have hgr:Good r:=fun y hy=>hw y ((List.dropWhile_sublist (fun x=>decide (x≠[63]))).mem (by rw [hd];exact List.mem_cons_of_mem _ hy))
   rw [hd]
   cases hv:valR (w.takeWhile fun x=>decide (x≠[63])) with
   | none=>rfl
   | some v =>
    have h1:=val_may hv
    simp only [Option.bind_some,List.drop_succ_cons,List.drop_zero]
    rw [pa_cons,if_pos rfl,part_prd _ _ _ hgr]
    cases hp:prdR r with
    | none=>rfl
    | some p =>
     obtain ⟨h2,h3⟩:=prd_may hp
     rw [Option.bind_some,part_end,if_pos rfl,Option.map_some,fil_yes]
     apply mayEn_of
     constructor<;>simp_all [zeroEn,keyEn,typedK,m0E]
  ·rw [if_neg hm,drop_while_no hm]
   cases valR (w.takeWhile fun x=>decide (x≠[63])) with
   | none=>rfl
   | some v=>simp only [Option.bind_some];rw [pa_nil];rfl
 ·rw [if_neg ht]
  cases w with
  | nil=>rfl
  | cons x w =>
   rw [keyT_cons]
   cases hx:keyR x with
   | none=>rfl
   | some k =>
    show none=fil (tailR { zeroEn 2 with temp:=t,ka:=k.1,kb:=k.2 } w)
    rw [hrest _ w rfl]
    split
    ·cases hv:valR (w.takeWhile fun x=>decide (x≠[63])) with
     | none=>rfl
     | some v =>
      rw [Option.bind_some]
      cases hp:prdR ((w.dropWhile fun x=>decide (x≠[63])).drop 1) with
      | none=>rfl
      | some p =>
       rw [Option.map_some,fil_no]
       intro h
       have:=h.tmp
       simp_all
    ·rfl
theorem entryO_is (w:List (List UInt8)) (hw:Good w):entryO w=fil (entryR w):=by
 cases w with
 | nil=>rfl
 | cons x w =>
  rw [entryR_cons]
  show (if kindW x=0 then none else finO (partsR (shapeN (kindW x)) (zeroEn (kindW x)) w))=_
  by_cases h0:kindW x=0
  ·rw [if_pos h0,if_pos h0];rfl
  ·rw [if_neg h0,if_neg h0]
   have h12:=kindW_le x
   have hg:=hw.tail
   generalize kindW x=k at *
   have hk:k=1∨k=2∨k=3∨k=4∨k=5∨k=6∨k=7∨k=8∨k=9∨k=10∨k=11∨k=12:=by omega
   rcases hk with rfl|rfl|rfl|rfl|rfl|rfl|rfl|rfl|rfl|rfl|rfl|rfl
   ·exact e1 w hg
   ·exact e2 w hg
   ·exact e3 w hg
   ·exact e4 w hg
   ·exact e5 w hg
   ·exact e6 w hg
   ·exact e7 w hg
   ·exact e8 w hg
   ·exact e9 w hg
   ·exact e10 w hg
   ·exact e11 w hg
   ·exact e12 w hg
end
section
open Go.RowKit Go.Lib
def okw (x:List UInt8):Prop:=x≠[]∧x≠[59]
theorem num_ok {most n:Nat} {x:List UInt8} (h:numL most x=some n):okw x:=by
 have e:=num_back h
 constructor
 ·rintro rfl;exact decL_ne n e
 ·rintro rfl
  have:=decL_digit n 59 (by rw [e];simp)
  revert this;decide
theorem key_ok {x:List UInt8} {k:ByteArray × ByteArray} (h:keyR x=some k):okw x:=by
 constructor
 ·rintro rfl
  have hz:keyR []=none:=by kernel_rfl
  rw [hz] at h;cases h
 ·rintro rfl
  have hz:keyR [59]=none:=by kernel_rfl
  rw [hz] at h;cases h
theorem type_ok {x:List UInt8} (h:typeB x=true):okw x:=by
 constructor
 ·rintro rfl;cases h
 ·rintro rfl;revert h;decide
theorem kind_ok {x:List UInt8} (h:kindW x≠0):okw x:=by
 constructor
 ·rintro rfl;exact h rfl
 ·rintro rfl;exact h (by decide)
theorem fields_ok:∀{w:List (List UInt8)} {fs:List Fld},fieldsW w=some fs→∀x∈w,okw x
 | [],_,_=>fun x hx=>by cases hx
 | l::r,fs,h=>fun x hx=>by
  rw [fieldsW] at h
  cases ho:wordO l with
  | none=>rw [ho] at h;cases h
  | some nt =>
   obtain ⟨n,t⟩:=nt
   rw [ho] at h
   cases hr:fieldsW r with
   | none=>rw [hr] at h;cases h
   | some gs =>
    rcases List.mem_cons.1 hx with rfl|hx
    ·constructor
     ·rintro rfl
      have hz:wordO []=none:=by kernel_rfl
      rw [hz] at ho;cases ho
     ·rintro rfl
      have hz:wordO [59]=none:=by kernel_rfl
      rw [hz] at ho;cases ho
    ·exact fields_ok hr x hx
theorem terms_ok:∀{w:List (List UInt8)} {fs:List Tm},termsW w=some fs→∀x∈w,okw x
 | [],_,_=>fun x hx=>by cases hx
 | l::r,fs,h=>fun x hx=>by
  rw [termsW] at h
  cases ho:termO l with
  | none=>rw [ho] at h;cases h
  | some nt =>
   rw [ho] at h
   cases hr:termsW r with
   | none=>rw [hr] at h;cases h
   | some gs =>
    rcases List.mem_cons.1 hx with rfl|hx
    ·constructor
     ·rintro rfl
      have hz:termO []=none:=by kernel_rfl
      rw [hz] at ho;cases ho
     ·rintro rfl
      have hz:termO [59]=none:=by kernel_rfl
      rw [hz] at ho;cases ho
    ·exact terms_ok hr x hx
theorem edits_ok:∀{w:List (List UInt8)} {fs:List Ed},editsW w=some fs→∀x∈w,okw x
 | [],_,_=>fun x hx=>by cases hx
 | l::r,fs,h=>fun x hx=>by
  rw [editsW] at h
  cases ho:editO l with
  | none=>rw [ho] at h;cases h
  | some nt =>
   rw [ho] at h
   cases hr:editsW r with
   | none=>rw [hr] at h;cases h
   | some gs =>
    rcases List.mem_cons.1 hx with rfl|hx
    ·constructor
     ·rintro rfl
      have hz:editO []=none:=by kernel_rfl
      rw [hz] at ho;cases ho
     ·rintro rfl
      have hz:editO [59]=none:=by kernel_rfl
      rw [hz] at ho;cases ho
    ·exact edits_ok hr x hx
theorem val_ok {w:List (List UInt8)} {v:List Fld} (h:valR w=some v):∀x∈w,okw x:=by
 unfold valR at h
 cases hf:fieldsW w with
 | none=>rw [hf] at h;cases h
 | some fs=>exact fields_ok hf
theorem prd_ok {w:List (List UInt8)} {v:List Tm} (h:prdR w=some v):∀x∈w,okw x:=by
 unfold prdR at h
 cases hf:termsW w with
 | none=>rw [hf] at h;exact absurd h (by simp [codeW])
 | some fs=>exact terms_ok hf
theorem eds_ok {w:List (List UInt8)} {v:List Ed} (h:edsR w=some v):∀x∈w,okw x:=by
 unfold edsR at h
 cases hf:editsW w with
 | none=>rw [hf] at h;exact absurd h (by simp [codeL])
 | some fs=>exact edits_ok hf
structure KeepE (e f:En):Prop where
 kind:f.kind=e.kind
 ka:f.ka=e.ka
 kb:f.kb=e.kb
theorem rest_ok {e f:En} {w:List (List UInt8)} (h:restR e w=some f):(∀x∈w,okw x)∧KeepE e f:=by
 unfold restR at h
 split at h
 ·cases hv:valR w with
  | none=>rw [hv] at h;cases h
  | some v=>rw [hv] at h;cases h;exact ⟨val_ok hv,rfl,rfl,rfl⟩
 ·split at h
  ·split at h
   ·rename_i hm
    cases hv:valR (w.takeWhile fun x=>decide (x≠[63])) with
    | none=>rw [hv] at h;cases h
    | some v =>
     rw [hv,Option.bind_some] at h
     cases hp:prdR ((w.dropWhile fun x=>decide (x≠[63])).drop 1) with
     | none=>rw [hp] at h;cases h
     | some p =>
      rw [hp] at h
      cases h
      refine ⟨fun x hx=>?_,rfl,rfl,rfl⟩
      rw [←List.takeWhile_append_dropWhile (p:=fun x=>decide (x≠[63])) (l:=w)] at hx
      rcases List.mem_append.1 hx with hx|hx
      ·exact val_ok hv x hx
      ·obtain ⟨r,hd⟩:=drop_while_at hm
       rw [hd] at hx hp
       rcases List.mem_cons.1 hx with rfl|hx
       ·exact ⟨by decide,by decide⟩
       ·exact prd_ok hp x hx
   ·cases h
  ·split at h
   ·cases hv:edsR w with
    | none=>rw [hv] at h;cases h
    | some v=>rw [hv] at h;cases h;exact ⟨eds_ok hv,rfl,rfl,rfl⟩
   ·split at h
    ·split at h
     ·rename_i h0
      cases h
      subst h0
      exact ⟨fun x hx=>(by cases hx),rfl,rfl,rfl⟩
     ·cases h
    ·cases hv:prdR w with
     | none=>rw [hv] at h;cases h
     | some v=>rw [hv] at h;cases h;exact ⟨prd_ok hv,rfl,rfl,rfl⟩
theorem small_ok {x:Option (List UInt8)} {n:Nat} (h:smallR x=some n):∃y,x=some y∧okw y:=by
 unfold smallR at h
 cases x with
 | none=>cases h
 | some y=>exact ⟨y,rfl,num_ok h⟩
theorem stampR_ok {x:Option (List UInt8)} {n:Nat} (h:stampR x=some n):∃y,x=some y∧okw y:=by
 unfold stampR at h
 cases x with
 | none=>cases h
 | some y=>exact ⟨y,rfl,num_ok h⟩
theorem tail_ok {e f:En} {w:List (List UInt8)} (h:tailR e w=some f):(∀x∈w,okw x)∧KeepE e f:=by
 unfold tailR at h
 split at h
 ·split at h
  ·rename_i hl
   match w,hl with
   | [y],_ =>
    cases hn:smallR ([y]:List (List UInt8))[0]? with
    | none=>rw [hn] at h;cases h
    | some n =>
     rw [hn] at h
     cases h
     obtain ⟨z,hz,ho⟩:=small_ok hn
     have:y=z:=by simpa using hz
     subst this
     exact ⟨fun x hx=>by rw [List.mem_singleton] at hx;subst hx;exact ho,rfl,rfl,rfl⟩
  ·cases h
 ·split at h
  ·split at h
   ·rename_i hl
    match w,hl with
    | [y],_ =>
     cases hn:stampR ([y]:List (List UInt8))[0]? with
     | none=>rw [hn] at h;cases h
     | some n =>
      rw [hn] at h
      cases h
      obtain ⟨z,hz,ho⟩:=stampR_ok hn
      have:y=z:=by simpa using hz
      subst this
      exact ⟨fun x hx=>by rw [List.mem_singleton] at hx;subst hx;exact ho,rfl,rfl,rfl⟩
   ·cases h
  ·split at h
   ·split at h
    ·rename_i h0
     cases h
     subst h0
     exact ⟨fun x hx=>(by cases hx),rfl,rfl,rfl⟩
    ·cases h
   ·split at h
    ·rename_i hc
     cases hn:smallR w[1]? with
     | none=>rw [hn] at h;cases h
     | some n =>
      rw [hn,Option.bind_some] at h
      split at h
      ·cases h
      ·obtain ⟨ho,hk⟩:=rest_ok h
       obtain ⟨y,hy,hyo⟩:=small_ok hn
       refine ⟨fun x hx=>?_,hk.1,hk.2,hk.3⟩
       match w,hc,hy with
       | a::b::r,hc,hy =>
        have ha:a=[105,102]:=by simpa using hc.2.2
        have hb:b=y:=by simpa using hy
        subst ha hb
        rcases List.mem_cons.1 hx with rfl|hx
        ·exact ⟨by decide,by decide⟩
        ·rcases List.mem_cons.1 hx with rfl|hx
         ·exact hyo
         ·exact ho x hx
    ·exact rest_ok h
theorem keyT_ok {e f:En} {w:List (List UInt8)} (h:keyT e w=some f) (hm:MayP f):∀x∈w,okw x:=by
 cases w with
 | nil=>cases h
 | cons x w =>
  rw [keyT_cons] at h
  split at h
  ·rename_i ht
   obtain ⟨h1,h2⟩:=tail_ok h
   intro y hy
   rcases List.mem_cons.1 hy with rfl|hy
   ·have hk:=hm.key
    unfold keyEn at hk
    rw [h2.kind] at hk
    have ht':typedK e.kind=true:=ht
    rw [if_pos ht',h2.ka] at hk
    simp only [Bool.and_eq_true] at hk
    exact type_ok hk.2
   ·exact h1 y hy
  ·cases hk:keyR x with
   | none=>rw [hk] at h;cases h
   | some k =>
    rw [hk,Option.bind_some] at h
    obtain ⟨h1,_⟩:=tail_ok h
    intro y hy
    rcases List.mem_cons.1 hy with rfl|hy
    ·exact key_ok hk
    ·exact h1 y hy
theorem stampT_ok {e f:En} {w:List (List UInt8)} (h:stampT e w=some f) (hm:MayP f):∀x∈w,okw x:=by
 unfold stampT at h
 split at h
 ·cases hn:stampR w[0]? with
  | none=>rw [hn] at h;cases h
  | some n =>
   rw [hn,Option.bind_some] at h
   obtain ⟨y,hy,ho⟩:=stampR_ok hn
   cases w with
   | nil=>cases hy
   | cons a w =>
    have ha:a=y:=by simpa using hy
    subst ha
    intro x hx
    rcases List.mem_cons.1 hx with rfl|hx
    ·exact ho
    ·exact keyT_ok h hm x hx
 ·exact keyT_ok h hm
theorem entry_ok {w:List (List UInt8)} {f:En} (h:fil (entryR w)=some f):∀x∈w,okw x:=by
 cases w with
 | nil=>intro x hx;cases hx
 | cons a w =>
  cases hr:entryR (a::w) with
  | none=>rw [hr] at h;cases h
  | some g =>
   have hm:MayP g:=by
    rw [hr] at h
    unfold fil at h
    rw [Option.bind_some] at h
    split at h
    ·rename_i hq;exact mayEn_parts hq
    ·cases h
   rw [entryR_cons] at hr
   split at hr
   ·cases hr
   ·rename_i hk
    intro x hx
    rcases List.mem_cons.1 hx with rfl|hx
    ·exact kind_ok hk
    ·match w,hr,hx with
     | (64::t)::w',hr,hx =>
      by_cases h2:(zeroEn (kindW a)).kind≤2
      ·have he:tempT (zeroEn (kindW a)) ((64::t)::w')=if t=[] then none else stampT { zeroEn (kindW a) with temp:=⟨t.toArray⟩ } w':=by
        show (if (zeroEn (kindW a)).kind≤2 then if t=[] then none else stampT { zeroEn (kindW a) with temp:=⟨t.toArray⟩ } w' else _)=_
        rw [if_pos h2]
       rw [he] at hr
       split at hr
       ·cases hr
       ·rcases List.mem_cons.1 hx with rfl|hx
        ·exact ⟨by simp,by simp⟩
        ·exact stampT_ok hr hm x hx
      ·rw [tempT_no _ _ (fun q=>absurd q h2)] at hr
       exact stampT_ok hr hm x hx
     | [],hr,hx=>cases hx
     | []::w',hr,hx =>
      rw [tempT_no _ _ (fun _ t w'' q=>by cases q)] at hr
      exact stampT_ok hr hm x hx
     | (c::t)::w',hr,hx =>
      by_cases hc:c=64
      ·subst hc
       by_cases h2:(zeroEn (kindW a)).kind≤2
       ·have he:tempT (zeroEn (kindW a)) ((64::t)::w')=if t=[] then none else stampT { zeroEn (kindW a) with temp:=⟨t.toArray⟩ } w':=by
         show (if (zeroEn (kindW a)).kind≤2 then if t=[] then none else stampT { zeroEn (kindW a) with temp:=⟨t.toArray⟩ } w' else _)=_
         rw [if_pos h2]
        rw [he] at hr
        split at hr
        ·cases hr
        ·rcases List.mem_cons.1 hx with rfl|hx
         ·exact ⟨by simp,by simp⟩
         ·exact stampT_ok hr hm x hx
       ·rw [tempT_no _ _ (fun q=>absurd q h2)] at hr
        exact stampT_ok hr hm x hx
      ·rw [tempT_no _ _ (fun _ t' w'' q=>by injection q with q1;injection q1 with q1;exact hc q1)] at hr
       exact stampT_ok hr hm x hx
end
section
open Go.RowKit Go.Lib
theorem splitL_app (a c:List UInt8):splitL (a++32::c)=splitL a++splitL c:=by
 induction h:a.length using Nat.strongRecOn generalizing a with
 | _ k ih =>
  subst h
  rcases ix_cases a 32 with ⟨hn,hnot⟩|⟨i,hi,hl,hat,hbef⟩
  ·have h1:Lib.indexByte (a++32::c) 32=(a.length:Int):=ix_first _ _ _ (by simpa using hnot)
   rw [splitL_yes h1,splitL_no hn,List.take_left,←List.drop_drop,List.drop_left]
   rfl
  ·have h1:Lib.indexByte (a++32::c) 32=(i:Int):=by
    have hs:=ix_split a 32 i hl hat
    have e:a++32::c=a.take i++32::(a.drop (i+1)++32::c):=by
     conv=>lhs;rw [hs]
     simp
    rw [e,ix_first _ _ _ hbef,List.length_take]
    congr 1;omega
   rw [splitL_yes h1,splitL_yes hi,List.take_append_of_le_length (by omega),List.drop_append_of_le_length (by omega),ih _ (by rw [List.length_drop];omega) _ rfl]
   rfl
theorem joinW_cons (x:List UInt8) {w:List (List UInt8)} (h:w≠[]):joinW (x::w)=x++32::joinW w:=by
 cases w with
 | nil=>exact absurd rfl h
 | cons y w=>simp [joinW,Lib.join,List.intercalate]
theorem joinW_app (a:List (List UInt8)) {b:List (List UInt8)} (ha:a≠[]) (hb:b≠[]):joinW (a++b)=joinW a++32::joinW b:=by
 induction a with
 | nil=>exact absurd rfl ha
 | cons x a ih =>
  by_cases h:a=[]
  ·subst h
   rw [List.cons_append,List.nil_append,joinW_cons x hb,joinW_one]
  ·rw [List.cons_append,joinW_cons x (by simp [h]),ih h,joinW_cons x h]
   simp
theorem splitL_ne (l:List UInt8):splitL l≠[]:=fun q=>by have:=splitL_pos l;rw [q] at this;simp at this
theorem join_splitL:∀(k:Nat) (l:List UInt8),l.length≤k→joinW (splitL l)=l
 | k,l,hk=>by
  rcases ix_cases l 32 with ⟨hn,_⟩|⟨i,hi,hl,hat,_⟩
  ·rw [splitL_no hn,joinW_one]
  ·rw [splitL_yes hi,joinW_cons _ (splitL_ne _)]
   cases k with
   | zero=>omega
   | succ k =>
    rw [join_splitL k _ (by rw [List.length_drop];omega)]
    exact (ix_split l 32 i hl hat).symm
theorem splitL_noblank:∀(k:Nat) (l:List UInt8),l.length≤k→∀x∈splitL l,(32:UInt8) ∉ x
 | k,l,hk=>by
  rcases ix_cases l 32 with ⟨hn,hno⟩|⟨i,hi,hl,hat,hbef⟩
  ·rw [splitL_no hn]
   intro x hx
   rw [List.mem_singleton] at hx
   subst hx;exact hno
  ·rw [splitL_yes hi]
   intro x hx
   rcases List.mem_cons.1 hx with rfl|hx
   ·exact hbef
   ·cases k with
    | zero=>omega
    | succ k=>exact splitL_noblank k _ (by rw [List.length_drop];omega) x hx
theorem good_split {l:List UInt8} (h:[] ∉ splitL l):Good (splitL l):=fun x hx=>⟨fun q=>h (by rw [←q];exact hx),splitL_noblank _ l (Nat.le_refl _) x hx⟩
theorem textO_is (l:List UInt8):textO l=fil (entryR (splitL l)):=by
 unfold textO
 by_cases h:[]∈splitL l
 ·rw [if_pos h]
  cases hf:fil (entryR (splitL l)) with
  | none=>rfl
  | some f=>exact absurd rfl (entry_ok hf [] h).1
 ·rw [if_neg h,entryO_is _ (good_split h)]
theorem textO_semi {l:List UInt8} (h:[59]∈splitL l):textO l=none:=by
 rw [textO_is]
 cases hf:fil (entryR (splitL l)) with
 | none=>rfl
 | some f=>exact absurd rfl (entry_ok hf [59] h).2
def entriesF:List (List (List UInt8))→Option (List En)
 | []=>some []
 | c::cs=>(fil (entryR c)).bind fun e=>(entriesF cs).map (e :: ·)
theorem entriesF_bad:∀{cs:List (List (List UInt8))},[]∈cs→entriesF cs=none
 | [],h=>by cases h
 | c::cs,h=>by
  rw [entriesF]
  rcases List.mem_cons.1 h with h|h
  ·subst h;rfl
  ·rw [entriesF_bad h]
   cases fil (entryR c)<;>rfl
theorem cut_ne:∀w:List (List UInt8),cutSemi w≠[]
 | []=>by simp [cutSemi]
 | x::w=>by
  rw [cutSemi]
  split
  ·simp
  ·split<;>simp
theorem cut_head (w:List (List UInt8)):[]∈cutSemi ([59]::w):=by rw [cutSemi,if_pos rfl];simp
theorem cut_tail {w:List (List UInt8)} (h:[]∈(cutSemi w).tail):∀p:List (List UInt8),[]∈(cutSemi (p++w)).tail
 | []=>h
 | x::p=>by
  have ih:=cut_tail h p
  rw [List.cons_append,cutSemi]
  split
  ·exact List.mem_of_mem_tail ih
  ·split
   ·rename_i hc;exact absurd hc (cut_ne _)
   ·rename_i c cs hc
    rw [hc] at ih
    exact ih
theorem cut_last (p:List (List UInt8)):[]∈cutSemi (p++[[59]]):=List.mem_of_mem_tail (cut_tail (by decide) p)
theorem cut_two (p q:List (List UInt8)):[]∈cutSemi (p++[59]::[59]::q):=List.mem_of_mem_tail (cut_tail (by
 rw [cutSemi,if_pos rfl]
 exact cut_head q) p)
theorem semi_ends {a:List UInt8} (h:[59]∈splitL a) (ho:∀j,j+3≤a.length→Lib.occAt a sep3 j=false):(∃r,splitL a=[59]::r)∨∃r,splitL a=r++[[59]]:=by
 obtain ⟨p,q,hpq⟩:=List.append_of_mem h
 by_cases hp:p=[]
 ·subst hp;exact .inl ⟨q,hpq⟩
 ·by_cases hq:q=[]
  ·subst hq;exact .inr ⟨p,hpq⟩
  ·exfalso
   have hj:=join_splitL _ a (Nat.le_refl _)
   rw [hpq,joinW_app p hp (by simp),joinW_cons _ hq] at hj
   have hlen:=congrArg List.length hj
   simp only [List.length_append,List.length_cons,List.length_nil] at hlen
   have hno:=ho (joinW p).length (by omega)
   have hyes:Lib.occAt a sep3 (joinW p).length=true:=by
    unfold Lib.occAt
    rw [←hj,List.drop_left]
    rfl
   rw [hyes] at hno;cases hno
theorem texts_is:∀(k:Nat) (l:List UInt8),l.length≤k→textsO (split3 l)=entriesF (cutSemi (splitL l))
 | k,l,hk=>by
  rcases Lib.index_spec l sep3 with ⟨hn,hno⟩|⟨i,hi,hil,hocc,hbef⟩
  ·rw [split3_no hn]
   by_cases hm:[59]∈splitL l
   ·have h1:textsO [l]=none:=by simp only [textsO];rw [textO_semi hm];rfl
    rw [h1]
    rcases semi_ends hm (fun j hj=>hno j (by omega)) with ⟨r,hr⟩|⟨r,hr⟩
    ·rw [hr,entriesF_bad (cut_head r)]
    ·rw [hr,entriesF_bad (cut_last r)]
   ·rw [cutSemi_no _ (fun x hx q=>hm (by rw [←q];exact hx))]
    simp only [textsO,entriesF]
    rw [textO_is]
  ·have hroom:i+3≤l.length:=by
    have:=Lib.index_room l sep3 (by rw [hi];omega)
    rw [hi] at this
    have e:sep3.length=3:=rfl
    omega
   have hl:l=l.take i++32::([59]++32::l.drop (i+3)):=by
    have h1:sep3 <+: l.drop i:=by
     unfold Lib.occAt at hocc
     exact List.isPrefixOf_iff_prefix.1 hocc
    obtain ⟨t,ht⟩:=h1
    have h2:l.drop (i+3)=t:=by
     rw [←List.drop_drop,←ht];rfl
    rw [h2]
    calc l=l.take i++l.drop i:=(List.take_append_drop i l).symm
     _=_:=by rw [←ht];rfl
   have hs:splitL l=splitL (l.take i)++[59]::splitL (l.drop (i+3)):=by
    conv=>lhs;rw [hl]
    rw [splitL_app,splitL_app]
    have e:splitL ([59]:List UInt8)=[[59]]:=splitL_no (by decide)
    rw [e];rfl
   rw [split3_yes hi,hs]
   cases k with
   | zero=>omega
   | succ k =>
    have ih:=texts_is k (l.drop (i+3)) (by rw [List.length_drop];omega)
    by_cases hm:[59]∈splitL (l.take i)
    ·have h1:textsO (l.take i::split3 (l.drop (i+3)))=none:=by simp only [textsO];rw [textO_semi hm];rfl
     rw [h1]
     have hoc:∀j,j+3≤(l.take i).length→Lib.occAt (l.take i) sep3 j=false:=fun j hj=>by
      rw [List.length_take] at hj
      cases hq:Lib.occAt (l.take i) sep3 j with
      | false=>rfl
      | true =>
       exfalso
       have h2:Lib.occAt l sep3 j=true:=by
        unfold Lib.occAt at hq ⊢
        rw [List.isPrefixOf_iff_prefix] at hq ⊢
        refine hq.trans ?_
        rw [List.drop_take]
        exact List.take_prefix _ _
       have h3:=hbef j (by omega)
       rw [h2] at h3;cases h3
     rcases semi_ends hm hoc with ⟨r,hr⟩|⟨r,hr⟩
     ·rw [hr,List.cons_append,entriesF_bad (cut_head _)]
     ·rw [hr,List.append_assoc]
      exact (entriesF_bad (cut_two r _)).symm
    ·rw [cutSemi_at _ _ (fun x hx q=>hm (by rw [←q];exact hx))]
     simp only [textsO,entriesF]
     rw [textO_is,ih]
theorem entriesF_is:∀cs:List (List (List UInt8)),entriesF cs=(entriesR cs).bind fun es=>if es.all mayEn=true then some es else none
 | []=>rfl
 | c::cs=>by
  rw [entriesF,entriesR,entriesF_is cs]
  cases entryR c with
  | none=>rfl
  | some e =>
   simp only [fil,Option.bind_some]
   by_cases hm:mayEn e=true
   ·rw [if_pos hm]
    cases entriesR cs with
    | none=>rfl
    | some es =>
     simp only [Option.bind_some,Option.map_some,List.all_cons,hm,Bool.true_and]
     split<;>rfl
   ·rw [if_neg hm]
    cases entriesR cs with
    | none=>rfl
    | some es=>simp [hm]
theorem entriesR_len:∀{cs:List (List (List UInt8))} {es:List En},entriesR cs=some es→es.length=cs.length
 | [],es,h=>by cases h;rfl
 | c::cs,es,h=>by
  rw [entriesR] at h
  cases he:entryR c with
  | none=>rw [he] at h;cases h
  | some e =>
   rw [he,Option.bind_some] at h
   cases hr:entriesR cs with
   | none=>rw [hr] at h;cases h
   | some gs=>rw [hr] at h;cases h;simp [entriesR_len hr]
theorem opP_is (l:List UInt8):opP l=(entriesR (cutSemi (splitL l))).bind fun es=>if mayRq es=true then some es else none:=by
 unfold opP
 rw [texts_is _ l (Nat.le_refl _),entriesF_is]
 cases hr:entriesR (cutSemi (splitL l)) with
 | none=>rfl
 | some es =>
  have h1:=entriesR_len hr
  have h2:0<es.length:=by
   rw [h1]
   exact List.length_pos_iff.2 (cut_ne _)
  simp only [Option.bind_some]
  unfold mayRq
  rw [decide_eq_true h2,Bool.true_and]
  by_cases ha:es.all mayEn=true
  ·rw [if_pos ha,ha,Bool.and_true,Option.bind_some]
   by_cases hl:es.length≤16
   ·rw [if_pos hl,if_pos (decide_eq_true hl)]
   ·rw [if_neg hl,if_neg (by simpa using hl)]
  ·rw [if_neg ha,if_neg (by simp [ha])];rfl
theorem opR_is (l:List UInt8):opR l=readRq (wordsAns l):=by
 unfold opR
 by_cases h0:l=[]
 ·subst h0
  have e:splitL ([]:List UInt8)=[[]]:=splitL_no rfl
  have e2:trimPrefix ([]:List UInt8) onceB=[]:=by decide
  rw [e2,opP_is,e];rfl
 have hw:wordsAns l=splitL l:=by unfold wordsAns;rw [if_neg h0]
 rw [hw]
 unfold readRq
 by_cases hp:hasPrefix l onceB=true
 ·obtain ⟨t,ht⟩:∃t,onceB++t=l:=List.isPrefixOf_iff_prefix.1 hp
  have htr:trimPrefix l onceB=t:=by
   unfold trimPrefix
   rw [if_pos hp,←ht,List.drop_left]
  have hsl:splitL l=onceW::splitL t:=by
   have e:l=onceW++32::t:=by rw [←ht];rfl
   rw [e,splitL_app]
   have e2:splitL onceW=[onceW]:=splitL_no (by decide)
   rw [e2];rfl
  rw [htr,hp,hsl,opP_is]
  simp only [List.head?_cons,decide_true,if_true,List.drop_succ_cons,List.drop_zero]
  cases entriesR (cutSemi (splitL t)) with
  | none=>rfl
  | some es =>
   simp only [Option.bind_some]
   split<;>rfl
 ·have hpf:hasPrefix l onceB=false:=by simpa using hp
  have htr:trimPrefix l onceB=l:=by unfold trimPrefix;rw [if_neg hp]
  rw [htr,hpf,opP_is]
  by_cases hh:(splitL l).head? = some onceW
  ·have hone:splitL l=[onceW]:=by
    cases hs:splitL l with
    | nil=>exact absurd hs (splitL_ne l)
    | cons x r =>
     rw [hs] at hh
     have hx:x=onceW:=by simpa using hh
     subst hx
     by_cases hr:r=[]
     ·rw [hr]
     ·exfalso
      have hj:=join_splitL _ l (Nat.le_refl _)
      rw [hs,joinW_cons _ hr] at hj
      apply hp
      unfold hasPrefix
      rw [List.isPrefixOf_iff_prefix]
      exact ⟨joinW r,by rw [←hj];rfl⟩
   rw [hone]
   decide
  ·simp only [hh,decide_false,Bool.false_eq_true,if_false]
   cases entriesR (cutSemi (splitL l)) with
   | none=>rfl
   | some es =>
    simp only [Option.bind_some]
    split<;>rfl
end
section
open Go.RowKit Go.Lib
theorem entriesR_app:∀(a b:List (List (List UInt8))),entriesR (a++b)=(entriesR a).bind fun x=>(entriesR b).map (x ++ ·)
 | [],b=>by
  show entriesR b=(some []).bind _
  rw [Option.bind_some]
  cases entriesR b<;>simp
 | c::a,b=>by
  show (entryR c).bind (fun e=>(entriesR (a++b)).map (e :: ·))=((entryR c).bind fun e=>(entriesR a).map (e :: ·)).bind _
  rw [entriesR_app a b]
  cases entryR c with
  | none=>rfl
  | some e =>
   rw [Option.bind_some,Option.bind_some]
   cases entriesR a with
   | none=>rfl
   | some x =>
    rw [Option.bind_some,Option.map_some,Option.bind_some]
    cases entriesR b<;>simp
def goodR (o:Option (List En)):Option (List En):=o.bind fun l=>if mayRq l=true then some l else none
theorem read_good (ls:List (List UInt8)) (once:Bool) (us:List (List UInt8)) (h1:decide (ls.head? = some onceW)=once) (h2:us=if once=true then ls.drop 1 else ls):readRq ls=(goodR (entriesR (cutSemi us))).map fun l=>(once,l):=by
 unfold readRq goodR
 simp only [h1]
 rw [←h2]
 cases entriesR (cutSemi us) with
 | none=>rfl
 | some l =>
  rw [Option.bind_some,Option.bind_some]
  split<;>rfl
theorem good_no {cs pre post:List (List (List UInt8))} {seg:List (List UInt8)} (h:cs=pre++seg::post) (hs:entryR seg=none):goodR (entriesR cs)=none:=by
 have:entriesR cs=none:=by
  rw [h,entriesR_app]
  have:entriesR (seg::post)=none:=by
   show (entryR seg).bind _=none
   rw [hs];rfl
  rw [this]
  cases entriesR pre<;>rfl
 rw [this];rfl
theorem good_many {cs pre post:List (List (List UInt8))} (h:cs=pre++post) (hp:16<pre.length):goodR (entriesR cs)=none:=by
 cases hc:entriesR cs with
 | none=>rfl
 | some l =>
  have hl:=entriesR_len hc
  show (if mayRq l=true then some l else none)=none
  rw [if_neg]
  unfold mayRq
  have:¬ l.length≤16:=by rw [hl,h,List.length_append];omega
  simp [this]
structure PaSt (W3:World) (N Q:Nat) (once:Bool) (ls:List (List UInt8)) (f i:Nat) (out:List Ex) (p:Option Addr) (c:Nat) (wr:World):Prop where
 res:wr.heap[N]? = some (.cells #[.bool false,.slice none 0 0] 25 (0,0))
 box:wr.heap[Q]? = some (.cells #[.bool once,.slice p out.length c] 25 (0,0))
 own:KEx.Own (Q+1) wr (.slice p out.length c) out
 each:∀x∈out,OwnQ (Q+1) x wr
 bel:Below Q W3 wr
 size:Q+1≤wr.heap.size
 few:out.length≤16
 cut:∃pre,entriesR pre=some (out.map Ex.en)∧((i≤ls.length∧f≤i∧cutSemi ls=pre++cutSemi (ls.drop f)∧∀x∈(ls.drop f).take (i-f),x≠[59])∨(i=ls.length+1∧cutSemi ls=pre))
theorem take_seg {ls:List (List UInt8)} {f i:Nat} {x:List UInt8} (hf:f≤i) (hx:ls[i]? = some x) (hs:∀z∈(ls.drop f).take (i-f),z≠[59]) :
  (x≠[59]→∀z∈(ls.drop f).take (i+1-f),z≠[59])∧(x=[59]→cutSemi (ls.drop f)=(ls.drop f).take (i-f)::cutSemi (ls.drop (i+1))):=by
 have hg:(ls.drop f)[i-f]? = some x:=by rw [List.getElem?_drop];rw [show f+(i-f)=i by omega];exact hx
 refine ⟨fun hne z hz=>?_,fun he=>?_⟩
 ·rw [show i+1-f=(i-f)+1 by omega,List.take_add_one,hg] at hz
  rcases List.mem_append.1 hz with h|h
  ·exact hs z h
  ·have:z=x:=by simpa using h
   rw [this];exact hne
 ·subst he
  obtain ⟨hl,hge⟩:=List.getElem?_eq_some_iff.1 hg
  have hsp:ls.drop f=(ls.drop f).take (i-f)++[59]::ls.drop (i+1):=by
   have h1:=(List.take_append_drop (i-f) (ls.drop f)).symm
   rw [List.drop_eq_getElem_cons hl,hge,List.drop_drop,show f+(i-f+1)=i+1 by omega] at h1
   exact h1
  have h2:=cutSemi_at ((ls.drop f).take (i-f)) (ls.drop (i+1)) hs
  rw [←hsp] at h2
  exact h2
theorem last_seg {ls:List (List UInt8)} {f:Nat} (hs:∀z∈(ls.drop f).take (ls.length-f),z≠[59]):cutSemi (ls.drop f)=[(ls.drop f).take (ls.length-f)]:=by
 have e:(ls.drop f).take (ls.length-f)=ls.drop f:=List.take_of_length_le (by rw [List.length_drop];exact Nat.le_refl _)
 rw [e] at hs ⊢
 exact cutSemi_no _ hs
end
section
open Go.RowKit Go.Lib
set_option maxHeartbeats 4000000 in
set_option maxRecDepth 100000 in
theorem word_term (x:Tm) (w:World) (hp:PlainAt w) (h1:1≤x.2.1∧x.2.1≤7) (h2:x.1.size≤32) (h3:x.2.2.size≤128) :
  Calls Tryz.prog 131 #[.agg #[.string x.1,.int .i64 x.2.1,.string x.2.2]] w fun e w'=>e=.returned (.string (wordM x))∧Below w.heap.size w w':=by
 obtain ⟨xf,xo,xt⟩:=x
 simp only at h1 h2 h3 ⊢
 obtain ⟨W,hW⟩:∃W,w.alloc (.cells #[.string xf,.int .i64 xo,.string xt] 49)=W:=⟨_,rfl⟩
 obtain ⟨F,hF⟩:∃F,w.heap.size=F:=⟨_,rfl⟩
 have hbw:Below w.heap.size w W:=by rw [←hW];exact (Below.refl _ _).alloc (Nat.le_refl _) _
 have hbox:BoxM W F (xf,xo,xt):=by rw [←hW,←hF];exact boxM_new w (xf,xo,xt)
 have hwl2:=writeL_len xt.data.toList
 have hwl3:xt.data.toList.length=xt.size:=by simp
 have HW:=hid (write_any xt W.drew (hp.on hbw.drew) (by omega))
 obtain ⟨wt,hwt⟩:∃wt:ByteArray,⟨(writeL xt.data.toList).toArray⟩=wt:=⟨_,rfl⟩
 have hwts:wt.size≤384:=by rw [←hwt];show (writeL xt.data.toList).toArray.size≤384;rw [List.size_toArray];omega
 rw [hwt] at HW
 obtain ⟨S2,hS2⟩:∃S2:ByteArray,xf++⟨#[opC xo]⟩=S2:=⟨_,rfl⟩
 have hS2s:S2.size≤33:=by rw [←hS2,ByteArray.size_append];show _+1≤_;omega
 obtain ⟨S4,hS4⟩:∃S4:ByteArray,S2++wt=S4:=⟨_,rfl⟩
 have HV:Hid (wordM (xf,xo,xt)=S4):=by show _=_;rw [←hS4,←hS2,←hwt];rfl
 have hA:∀w,Sem.run Tryz.prog (Op.stringOp .add xf ⟨#[opC xo]⟩) w=.ok (.string S2) w:=fun w=>by rw [←hS2];exact run_string_add_sum _ _ _ (by show xf.size+1≤_;omega)
 have hC:∀w,Sem.run Tryz.prog (Op.stringOp .add S2 wt) w=.ok (.string S4) w:=fun w=>by rw [←hS4];exact run_string_add_sum _ _ _ (by omega)
 obtain ⟨m,hm7,hxo⟩:∃m:Nat,m<7∧xo=m+1:=⟨(xo-1).toNat,by omega,by omega⟩
 have hw:IntKind.i64.wrap (xo-1)=(m:Int):=by rw [hxo];rw [show (m:Int)+1-1=m by omega];exact wrap_i64 _ (by omega) (by omega)
 have hm0:(0:Int)≤m:=by omega
 have hm7z:(m:Int)<7:=by omega
 have hsg:=sign_at m hm7
 rw [←hxo] at hsg
 have hA2:∀w,Sem.run Tryz.prog (Op.stringOp .add xf (Utf8.encode (((⟨#[61,33,94,60,62,63,45]⟩:ByteArray)[m]'hm7).toNat:Int))) w=.ok (.string S2) w:=by rw [hsg];exact hA
 obtain ⟨c0,c1,c2⟩:=hbox.cells
 have KS:Hid (∀w':World,Below W.drew.heap.size W.drew w'→w'.cell? ⟨F,0,none⟩=some (.string xf)∧w'.cell? ⟨F,2,none⟩=some (.string xt)):=fun w' h=>⟨(BoxM.on (w:=W.drew) hbox h).cells.1,(BoxM.on (w:=W.drew) hbox h).cells.2.2⟩
 have HBW:=hid hbw
 simp only at c0 c1 c2
 clear hwl2 hwl3 hwt hS2 hS4 hwts hS2s h1 h2 h3 hp hA hxo hsg hbox hbw
 go_enter Tryz.func131,Tryz.ntmps131
 rw [hF]
 go_wp2_with fail
 go_region_held3 (fun w'=>w'.cell? ⟨F,0,none⟩=some (.string xf)∧w'.cell? ⟨F,2,none⟩=some (.string xt))
  (first|exact ⟨c0,c2⟩|exact q2)
  (first|(go_at_call 130;refine HW.out.mono ?_;rintro o w2 ⟨rfl,hb2⟩;have q2:=KS.out _ hb2))
 all_goals
  go_wp2_with fail
  go_ret
  rw [←hF]
  exact ⟨by rw [HV.out];rfl,bel_then HBW.out.drew HBW.out.drew.size hb2⟩
set_option maxHeartbeats 8000000 in
set_option maxRecDepth 100000 in
theorem pprint_any (v:Value) (p:List Tm) (w:World) (hp:PlainAt w) (hv:KM.Is w v p) (hf:FitM p) :
  Calls Tryz.prog 90 #[v] w fun e w'=>e=.returned (.tuple #[.string (lineM (ansM p)),.int .i64 (mayM p)])∧Below w.heap.size w w':=by
 obtain ⟨i0,hi0,hz0,hz1,hz2⟩:=info_parts Tryz.infoStr
 have HI:=hid hi0
 have HN:=hid (pnorm_any v p w hv hf)
 have HP:=hid hp
 clear hv hf hp hi0
 by_cases hm:mayM p=0
 ·have HAL:=hid (fun x hx=>ansM_all (p:=p) x hx)
  have hal:=ansM_len p
  have HM:=hid hm
  obtain ⟨G,hG⟩:∃G,ansM p=G:=⟨_,rfl⟩
  rw [hG] at HAL hal
  have HG:=hid hG
  clear hm hG
  go_enter Tryz.func90,Tryz.ntmps90
  go_wp2_with (first|(go_at_call 117;refine HN.out.mono ?_;rintro e w1 ⟨⟨u,he,ho⟩,hb1⟩;rw [HM.out] at he;subst he;rw [HG.out] at ho;obtain ⟨p5,c5,hu,hd⟩:=Kind.own_is ho;subst hu;have HD:=hid hd;have HB1:=hid hb1;have HP1:=hid (HP.out.on hb1);clear ho hd hb1))
  go_loopg [6,19] G.length (fun g vs vi wr=>∃i:Nat,vi=.int .i64 i∧i≤G.length∧G.length-i≤g∧Hid (Below w1.heap.size w1 wr)∧Hid (OwnT w1.heap.size wr vs ((G.take i).map wordM)))
  case atStart=>exact ⟨0,rfl,by omega,by omega,Below.refl _ _,World.ownsRow_nil _ _ _ _⟩
  case round =>
   obtain ⟨i,rfl,hi,hgk,HB,HO⟩:=hrel
   by_cases hlt:i<G.length
   ·have hltz:(i:Int)<(G.length:Int):=by omega
    have hiz:(0:Int)≤i:=by omega
    obtain ⟨b,off,rfl,hat⟩:∃b off,p5=some ⟨b,off,none⟩∧KM.At w1 b off G:=by
     rcases HD.out with h|h
     ·subst h;simp at hlt
     ·exact h
    obtain ⟨c0,c1,c2⟩:=km_cells (Kind.at_kept hat HB.out) i hlt
    obtain ⟨hn,hr,hs⟩:=HAL.out _ (List.getElem_mem hlt)
    have hor:=rightM_range hr
    have hns:=fieldB_len hn
    have hss:=of_decide_eq_true hs
    have htk:(G.take (i+1)).map wordM=(G.take i).map wordM++[wordM G[i]]:=by
     rw [List.take_succ_eq_append_getElem hlt,List.map_append];simp
    have hns2:(G[i]).1.size≤32:=by simpa using hns
    have hal2:((G.take i).map wordM).length=i:=by rw [List.length_map,List.length_take];omega
    obtain ⟨x,hx⟩:∃x,G[i]=x:=⟨_,rfl⟩
    rw [hx] at c0 c1 c2 hor hns2 hss htk
    have HWT:Hid (∀W,Below w1.heap.size w1 W→Calls Tryz.prog 131 #[.agg #[.string x.1,.int .i64 x.2.1,.string x.2.2]] W fun e w'=>e=.returned (.string (wordM x))∧Below W.heap.size W w'):=fun W hb=>word_term x W (HP1.out.on hb) hor hns2 hss
    obtain ⟨acc,hacc⟩:∃acc,(G.take i).map wordM=acc:=⟨_,rfl⟩
    rw [hacc] at HO htk hal2
    obtain ⟨wd,hwd⟩:∃wd,wordM x=wd:=⟨_,rfl⟩
    rw [hwd] at HWT htk
    have HTK:=hid htk
    have HAC:=hid hal2
    have hal3:acc.length≤8:=by omega
    have hsz:=HB.out.size
    obtain ⟨xf,xo,xt⟩:=x
    simp only at c0 c1 c2 HWT
    clear hat hn hr hs hx htk hns hss hor hns2 hwd hacc hal2
    go_wp2_with (first
     | (at_builtin;refine wpList_append_own _ rfl _ _ 43 rfl w1.heap.size 9 i0 (.string ⟨#[]⟩) 1 16 Tryz.underlying43 HI.out hz0 hz1 hz2 rfl (by decide) _ _ _ rfl HO3.out _ 1 1 [.string wd] rfl rfl (by intro j u hj;match j,hj with|0,hj=>simp at hj;subst hj;simp [Addr.add]) (by intro u hu;simp at hu;subst hu;rfl) (by unfold maxLen;omega) (by omega) (by have:=hb2.size;simp at this ⊢;omega) ?_;intro v4 w4 hown4 hg4 hnil4;have HO4:=hid hown4;have HG4:=hid hg4;clear hown4 hg4 hnil4)
     | (go_at_call 131;refine (HWT.out _ (HB.out.alloc hsz _)).mono ?_;rintro e w2 ⟨rfl,hb2⟩;have HO3:Hid (OwnT w1.heap.size (w2.alloc (.cells #[.string wd] 9)) _ acc):=hid ((OwnT.on (OwnT.on HO.out ((Below.refl _ wr).alloc (Nat.le_refl _) _)) hb2).on ((Below.refl _ _).alloc (Nat.le_refl _) _))))
    go_roundg (G.length-(i+1))
    case measure=>omega
    refine ⟨i+1,by go_num,by omega,by omega,?_,?_⟩
    ·have hb3:Below w1.heap.size w1 (w2.alloc (.cells #[.string wd] 9)):=(bel_then (HB.out.alloc hsz _) (HB.out.alloc hsz _).size hb2).alloc (Nat.le_trans (HB.out.alloc hsz _).size hb2.size) _
     exact hb3.grown HG4.out hb3.size (fun k hk=>(World.ownsRow.lt HO3.out k hk).1)
    ·rw [HTK.out]
     show OwnT _ _ _ _
     unfold OwnT
     rw [List.length_append,List.map_append]
     exact HO4.out
   ·have hltz:¬ (i:Int)<(G.length:Int):=by omega
    have htk2:G.take i=G:=List.take_of_length_le (by omega)
    rw [htk2] at HO
    have hws:∀y∈G.map wordM,y.size≤417:=fun y hy=>by
     obtain ⟨t,ht,rfl⟩:=List.mem_map.1 hy
     obtain ⟨a,_,c⟩:=HAL.out t ht
     exact wordM_len a c
    have hwl:(G.map wordM).length≤128:=by rw [List.length_map];omega
    obtain ⟨ws,hwe⟩:∃ws,G.map wordM=ws:=⟨_,rfl⟩
    have HLN:Hid (lineM G=⟨(Lib.join (ws.map (·.data.toList)) [32]).toArray⟩):=by show _=_;rw [←hwe];rfl
    rw [hwe] at HO hws hwl
    clear htk2 hwe
    obtain ⟨p4,cap4,hv4⟩:=own_slice HO.out
    subst hv4
    have HJ:=hid (join_any ws p4 cap4 wr HO.out hwl hws)
    clear hws hwl
    go_wp2_with (first|(go_at_call 26;refine HJ.out.mono ?_;rintro e w2 ⟨rfl,hb2⟩))
    go_ret2
    exact ⟨by rw [HM.out,HG.out,HLN.out];rfl,bel_then (bel_then HB1.out HB1.out.size HB.out) (bel_then HB1.out HB1.out.size HB.out).size hb2⟩
 ·have hne:(mayM p != 0)=true:=by rw [bne_iff_ne];exact hm
  have HA:Hid (ansM p=[]):=by show _=_;unfold ansM;rw [if_neg hm]
  obtain ⟨r,hr⟩:∃r,mayM p=r:=⟨_,rfl⟩
  rw [hr] at hne
  have HR:=hid hr
  clear hm hr
  go_enter Tryz.func90,Tryz.ntmps90
  go_wp2_with (first|(go_at_call 117;refine HN.out.mono ?_;rintro e w1 ⟨⟨u,he,ho⟩,hb1⟩;rw [HR.out] at he;subst he;clear ho))
  go_ret2
  exact ⟨by rw [HR.out,HA.out];rfl,hb1⟩
end
section
open Go.RowKit Go.Lib
def kC (o:Int):UInt8:=if o=1 then 58 else if o=2 then 43 else if o=3 then 45 else if o=4 then 126 else 61
theorem kC_at (m:Nat) (h:m<5):Utf8.encode (((⟨#[58,43,45,126,61]⟩:ByteArray)[m]'h).toNat:Int)=⟨#[kC ((m:Int)+1)]⟩:=by
 have:m=0∨m=1∨m=2∨m=3∨m=4:=by omega
 rcases this with rfl|rfl|rfl|rfl|rfl<;>decide +revert
theorem sign_wipe:signS 4=⟨#[kC 4]⟩:=rfl
theorem sign_else {o:Int} (h1:1≤o) (h2:o≤5) (h4:o≠4):signS o=⟨#[kC o]⟩++⟨#[61]⟩:=by
 have:o=1∨o=2∨o=3∨o=5:=by omega
 rcases this with rfl|rfl|rfl|rfl<;>rfl
theorem rightE_range {x:Ed} (h:rightE x=true):(1≤x.1∧x.1≤5)∧(x.1=4→x.2.2.size=0):=by
 unfold rightE at h
 rw [Bool.and_eq_true,Bool.and_eq_true,Bool.or_eq_true] at h
 refine ⟨⟨of_decide_eq_true h.1.1,of_decide_eq_true h.1.2⟩,fun e=>?_⟩
 rcases h.2 with k|k
 ·exact absurd e (of_decide_eq_true k)
 ·exact of_decide_eq_true k
set_option maxHeartbeats 4000000 in
set_option maxRecDepth 100000 in
theorem word_edit (x:Ed) (w:World) (hp:PlainAt w) (h1:1≤x.1∧x.1≤5) (h2:x.2.1.size≤32) (h3:x.2.2.size≤128) (h4:x.1=4→x.2.2.size=0) :
  Calls Tryz.prog 132 #[.agg #[.int .i64 x.1,.string x.2.1,.string x.2.2]] w fun e w'=>e=.returned (.string (wordE x))∧Below w.heap.size w w':=by
 obtain ⟨xo,xf,xt⟩:=x
 simp only at h1 h2 h3 h4 ⊢
 obtain ⟨W,hW⟩:∃W,w.alloc (.cells #[.int .i64 xo,.string xf,.string xt] 47)=W:=⟨_,rfl⟩
 obtain ⟨F,hF⟩:∃F,w.heap.size=F:=⟨_,rfl⟩
 have hbw:Below w.heap.size w W:=by rw [←hW];exact (Below.refl _ _).alloc (Nat.le_refl _) _
 have hbox:BoxE W F (xo,xf,xt):=by rw [←hW,←hF];exact boxE_new w (xo,xf,xt)
 have hwl2:=writeL_len xt.data.toList
 have hwl3:xt.data.toList.length=xt.size:=by simp
 have HW:Hid (∀n,Calls Tryz.prog 130 #[.string xt] (W.drewN n) fun e w'=>e=.returned (.string ⟨(writeL xt.data.toList).toArray⟩)∧Below (W.drewN n).heap.size (W.drewN n) w'):=fun n=>write_any xt (W.drewN n) (hp.on (belE_drew hbw n)) (by omega)
 obtain ⟨wt,hwt⟩:∃wt:ByteArray,⟨(writeL xt.data.toList).toArray⟩=wt:=⟨_,rfl⟩
 have hwts:wt.size≤384:=by rw [←hwt];show (writeL xt.data.toList).toArray.size≤384;rw [List.size_toArray];omega
 rw [hwt] at HW
 obtain ⟨S2,hS2⟩:∃S2:ByteArray,xf++⟨#[kC xo]⟩=S2:=⟨_,rfl⟩
 have hS2s:S2.size≤33:=by rw [←hS2,ByteArray.size_append];show _+1≤_;omega
 obtain ⟨S3,hS3⟩:∃S3:ByteArray,S2++⟨#[61]⟩=S3:=⟨_,rfl⟩
 have hS3s:S3.size≤34:=by rw [←hS3,ByteArray.size_append];show _+1≤_;omega
 obtain ⟨S4,hS4⟩:∃S4:ByteArray,S3++wt=S4:=⟨_,rfl⟩
 have hA:∀w,Sem.run Tryz.prog (Op.stringOp .add xf ⟨#[kC xo]⟩) w=.ok (.string S2) w:=fun w=>by rw [←hS2];exact run_string_add_sum _ _ _ (by show xf.size+1≤_;omega)
 have hB:∀w,Sem.run Tryz.prog (Op.stringOp .add S2 ⟨#[61]⟩) w=.ok (.string S3) w:=fun w=>by rw [←hS3];exact run_string_add_sum _ _ _ (by show S2.size+1≤_;omega)
 have hC:∀w,Sem.run Tryz.prog (Op.stringOp .add S3 wt) w=.ok (.string S4) w:=fun w=>by rw [←hS4];exact run_string_add_sum _ _ _ (by omega)
 obtain ⟨m,hm5,hxo⟩:∃m:Nat,m<5∧xo=m+1:=⟨(xo-1).toNat,by omega,by omega⟩
 have hw:IntKind.i64.wrap (xo-1)=(m:Int):=by rw [hxo];rw [show (m:Int)+1-1=m by omega];exact wrap_i64E _ (by omega) (by omega)
 have hm0:(0:Int)≤m:=by omega
 have hm5z:(m:Int)<5:=by omega
 have hsg:=kC_at m hm5
 rw [←hxo] at hsg
 have hA2:∀w,Sem.run Tryz.prog (Op.stringOp .add xf (Utf8.encode (((⟨#[58,43,45,126,61]⟩:ByteArray)[m]'hm5).toNat:Int))) w=.ok (.string S2) w:=by rw [hsg];exact hA
 obtain ⟨c0,c1,c2⟩:=hbox.cells
 have HBW:=hid hbw
 simp only at c0 c1 c2
 by_cases hk:xo=4
 ·have hkb:(xo==4)=true:=by rw [hk];rfl
  have HV:Hid (wordE (xo,xf,xt)=S2):=by
   show _=_
   have ht0:xt.data.toList=[]:=List.length_eq_zero_iff.1 (by rw [hwl3];exact h4 hk)
   rw [←hS2]
   unfold wordE
   simp only
   rw [ht0,show writeL []=[] from rfl,hk,sign_wipe]
   exact ba_eq (by simp)
  clear hwl2 hwl3 hwt hS2 hS3 hS4 hwts hS2s hS3s h1 h2 h3 h4 hp hA hB hC hxo hsg hbox hbw HW hk
  go_enter Tryz.func132,Tryz.ntmps132
  rw [hF]
  go_wp2_with fail
  go_quiet (fail)
  go_wp2_with fail
  go_ret
  rw [←hF]
  exact ⟨by rw [HV.out];rfl,belE_drew HBW.out _⟩
 ·have hkb:(xo==4)=false:=beq_eq_false_iff_ne.2 hk
  have HV:Hid (wordE (xo,xf,xt)=S4):=by
   show _=_
   rw [←hS4,←hS3,←hS2,←hwt]
   unfold wordE
   simp only
   rw [sign_else h1.1 h1.2 hk]
   exact ba_eq (by simp)
  clear hwl2 hwl3 hwt hS2 hS3 hS4 hwts hS2s hS3s h1 h2 h3 h4 hp hA hxo hsg hbox hbw hk
  go_enter Tryz.func132,Tryz.ntmps132
  rw [hF]
  go_wp2_with fail
  go_quiet (fail)
  go_wp2_with (go_at_call 130;refine (HW.out _).mono ?_;rintro o w2 ⟨rfl,hb2⟩)
  go_ret
  rw [←hF]
  exact ⟨by rw [HV.out];rfl,(belE_drew HBW.out _).trans (hb2.mono HBW.out.size)⟩
theorem joinE_any (ws:List ByteArray) (p:Option Addr) (cap:Nat) (w:World) {n0:Nat} (h:OwnT n0 w (.slice p ws.length cap) ws) (hn:ws.length≤128) (hs:∀x∈ws,x.size≤418) :
  Calls Tryz.prog 26 #[.slice p ws.length cap,.string ⟨#[32]⟩] w fun e w'=>e=.returned (.string ⟨(Lib.join (ws.map (·.data.toList)) [32]).toArray⟩)∧Below w.heap.size w w':=by
 rcases h.2 with ⟨_,h0⟩|⟨g,c,cur,hv,_,hg,hcap,_,hsz,htk⟩
 ·obtain rfl:=List.length_eq_zero_iff.1 h0
  refine (Tryz.strings_Join_none p cap _ w).mono ?_
  rintro e w' ⟨rfl,rfl⟩
  exact ⟨rfl,Below.refl _ _⟩
 ·injection hv with hp hl hc
  subst hp
  subst hc
  refine (Tryz.strings_Join g 0 cap ws ⟨#[32]⟩ w (fun j x hj=>?_) (Array.getElem?_eq_some_iff.1 hg).1 (by omega) (by omega) ?_).mono ?_
  ·have hjl:=(List.getElem?_eq_some_iff.1 hj).1
   rw [Nat.zero_add,cell_of_row w g j cur _ _ hg,←Array.getElem?_toList]
   have:(ws.map Value.string)[j]? = cur.toList[j]?:=by rw [←htk,List.getElem?_take,if_pos (by omega)]
   rw [←this,List.getElem?_map,hj];rfl
  ·have h1:=join_len (ws.map (·.data.toList)) 418 (fun l hl=>by
    obtain ⟨x,hx,rfl⟩:=List.mem_map.1 hl
    have:=hs x hx
    simpa using this)
   rw [List.length_map] at h1
   have h2:ws.length * 419≤128 * 419:=Nat.mul_le_mul_right _ hn
   show (Lib.join (ws.map (·.data.toList)) [32]).length≤_
   omega
  ·rintro e w' ⟨rfl,hb⟩
   exact ⟨rfl,hb⟩
set_option maxHeartbeats 8000000 in
set_option maxRecDepth 100000 in
theorem pprintE_plain (v:Value) (p:List Ed) (w:World) (hp:PlainAt w) (hv:KE.Is w v p) (hf:FitE p) :
  Calls Tryz.prog 91 #[v] w fun e w'=>e=.returned (.tuple #[.string (prE p),.int .i64 (mayE p)])∧Below w.heap.size w w':=by
 obtain ⟨i0,hi0,hz0,hz1,hz2⟩:=info_parts Tryz.infoStr
 have HI:=hid hi0
 have HN:=hid (pmayE_raw v p w hv hf)
 have HP:=hid hp
 by_cases hm:mayE p=0
 ·obtain ⟨hl16,hn,hr,hs⟩:=mayE_zero hm
  have HAL:=hid (fun x (hx:x∈p)=>And.intro (hn x hx) (And.intro (hr x hx) (hs x hx)))
  have HM:=hid hm
  rw [hm] at HN
  obtain ⟨q,cap,rfl,hd⟩:=hv
  have HD:=hid hd
  have HPR:Hid (prE p=lineB (p.map wordE)):=by show _=_;unfold prE lineE;rw [if_pos hm]
  clear hm hn hr hs hf hp hi0 hd
  go_enter Tryz.func91,Tryz.ntmps91
  go_wp2_with fail
  refine HN.out.mono ?_
  rintro e w1 ⟨rfl,hb1⟩
  have HB1:=hid hb1
  have HP1:=hid (HP.out.on hb1)
  have HD1:Hid (p=[]∨∃b off,q=some ⟨b,off,none⟩∧KE.At w1 b off p):=by
   rcases HD.out with h|⟨b,off,h1,h2⟩
   ·exact Or.inl h
   ·exact Or.inr ⟨b,off,h1,Kind.at_kept h2 hb1⟩
  clear hb1
  go_wp2_with fail
  go_loopg [5,15] p.length (fun g vs vi wr=>∃i:Nat,vi=.int .i64 i∧i≤p.length∧p.length-i≤g∧Hid (Below w1.heap.size w1 wr)∧Hid (OwnT w1.heap.size wr vs ((p.take i).map wordE)))
  case atStart=>exact ⟨0,rfl,by omega,by omega,Below.refl _ _,World.ownsRow_nil _ _ _ _⟩
  case round =>
   obtain ⟨i,rfl,hi,hgk,HB,HO⟩:=hrel
   by_cases hlt:i<p.length
   ·have hltz:(i:Int)<(p.length:Int):=by omega
    have hiz:(0:Int)≤i:=by omega
    obtain ⟨b,off,rfl,hat⟩:∃b off,q=some ⟨b,off,none⟩∧KE.At w1 b off p:=by
     rcases HD1.out with h|h
     ·subst h;simp at hlt
     ·exact h
    obtain ⟨c0,c1,c2⟩:=ke_cells (Kind.at_kept hat HB.out) i hlt
    obtain ⟨hn,hr,hs⟩:=HAL.out _ (List.getElem_mem hlt)
    obtain ⟨hor,h4⟩:=rightE_range hr
    have hns:=fieldB_len hn
    have hss:=of_decide_eq_true hs
    have htk:(p.take (i+1)).map wordE=(p.take i).map wordE++[wordE p[i]]:=by
     rw [List.take_succ_eq_append_getElem hlt,List.map_append];simp
    have hns2:(p[i]).2.1.size≤32:=by simpa using hns
    have hal2:((p.take i).map wordE).length=i:=by rw [List.length_map,List.length_take];omega
    obtain ⟨x,hx⟩:∃x,p[i]=x:=⟨_,rfl⟩
    rw [hx] at c0 c1 c2 hor hns2 hss htk h4
    have HWT:Hid (∀W,Below w1.heap.size w1 W→Calls Tryz.prog 132 #[.agg #[.int .i64 x.1,.string x.2.1,.string x.2.2]] W fun e w'=>e=.returned (.string (wordE x))∧Below W.heap.size W w'):=fun W hb=>word_edit x W (HP1.out.on hb) hor hns2 hss h4
    obtain ⟨acc,hacc⟩:∃acc,(p.take i).map wordE=acc:=⟨_,rfl⟩
    rw [hacc] at HO htk hal2
    obtain ⟨wd,hwd⟩:∃wd,wordE x=wd:=⟨_,rfl⟩
    rw [hwd] at HWT htk
    have HTK:=hid htk
    have HAC:=hid hal2
    have hal3:acc.length≤16:=by omega
    have hsz:=HB.out.size
    obtain ⟨xo,xf,xt⟩:=x
    simp only at c0 c1 c2 HWT
    clear hat hn hr hs hx htk hns hss hor hns2 hwd hacc hal2 h4
    go_wp2_with (first
     | (at_builtin;refine wpList_append_own _ rfl _ _ 43 rfl w1.heap.size 9 i0 (.string ⟨#[]⟩) 1 16 Tryz.underlying43 HI.out hz0 hz1 hz2 rfl (by decide) _ _ _ rfl HO3.out _ 1 1 [.string wd] rfl rfl (by intro j u hj;match j,hj with|0,hj=>simp at hj;subst hj;simp [Addr.add]) (by intro u hu;simp at hu;subst hu;rfl) (by unfold maxLen;omega) (by omega) (by have:=hb2.size;simp at this ⊢;omega) ?_;intro v4 w4 hown4 hg4 hnil4;have HO4:=hid hown4;have HG4:=hid hg4;clear hown4 hg4 hnil4)
     | (go_at_call 132;refine (HWT.out _ (HB.out.alloc hsz _)).mono ?_;rintro e w2 ⟨rfl,hb2⟩;have HO3:Hid (OwnT w1.heap.size (w2.alloc (.cells #[.string wd] 9)) _ acc):=hid ((OwnT.on (OwnT.on HO.out ((Below.refl _ wr).alloc (Nat.le_refl _) _)) hb2).on ((Below.refl _ _).alloc (Nat.le_refl _) _))))
    go_roundg (p.length-(i+1))
    case measure=>omega
    refine ⟨i+1,by go_num,by omega,by omega,?_,?_⟩
    ·have hb3:Below w1.heap.size w1 (w2.alloc (.cells #[.string wd] 9)):=(bel_then (HB.out.alloc hsz _) (HB.out.alloc hsz _).size hb2).alloc (Nat.le_trans (HB.out.alloc hsz _).size hb2.size) _
     exact hb3.grown HG4.out hb3.size (fun k hk=>(World.ownsRow.lt HO3.out k hk).1)
    ·rw [HTK.out]
     show OwnT _ _ _ _
     unfold OwnT
     rw [List.length_append,List.map_append]
     exact HO4.out
   ·have hltz:¬ (i:Int)<(p.length:Int):=by omega
    have htk2:p.take i=p:=List.take_of_length_le (by omega)
    rw [htk2] at HO
    have hws:∀y∈p.map wordE,y.size≤418:=fun y hy=>by
     obtain ⟨t,ht,rfl⟩:=List.mem_map.1 hy
     obtain ⟨a,_,c⟩:=HAL.out t ht
     exact wordE_len a c
    have hwl:(p.map wordE).length≤128:=by rw [List.length_map];omega
    obtain ⟨ws,hwe⟩:∃ws,p.map wordE=ws:=⟨_,rfl⟩
    rw [hwe] at HPR
    have HLN:Hid (lineB ws=⟨(Lib.join (ws.map (·.data.toList)) [32]).toArray⟩):=by show _=_;rfl
    rw [hwe] at HO hws hwl
    clear htk2 hwe
    obtain ⟨p4,cap4,hv4⟩:=own_slice HO.out
    subst hv4
    have HJ:=hid (joinE_any ws p4 cap4 wr HO.out hwl hws)
    clear hws hwl
    go_wp2_with (first|(go_at_call 26;refine HJ.out.mono ?_;rintro e w2 ⟨rfl,hb2⟩))
    go_ret2
    exact ⟨by rw [HM.out,HPR.out,HLN.out];rfl,bel_then (bel_then HB1.out HB1.out.size HB.out) (bel_then HB1.out HB1.out.size HB.out).size hb2⟩
 ·have hne:(mayE p != 0)=true:=by rw [bne_iff_ne];exact hm
  have HA:Hid (prE p=⟨#[]⟩):=by show _=_;unfold prE;rw [if_neg hm]
  obtain ⟨r,hr⟩:∃r,mayE p=r:=⟨_,rfl⟩
  rw [hr] at hne HN
  have HR:=hid hr
  clear hm hr hv hf hp
  go_enter Tryz.func91,Tryz.ntmps91
  go_wp2_with fail
  refine HN.out.mono ?_
  rintro e w1 ⟨rfl,hb1⟩
  have HB1:=hid hb1
  clear hb1
  go_wp2_with fail
  go_ret2
  exact ⟨by rw [HR.out,HA.out];rfl,HB1.out⟩
end
section
open Go.RowKit Go.Lib
def pieceS (e:En) (p:Nat):ByteArray :=
 if p=1 then if e.temp=⟨#[]⟩ then ⟨#[]⟩ else ⟨#[64]⟩++e.temp
 else if p=2 then e.ka++⟨#[47]⟩++e.kb
 else if p=3 then e.ka
 else if p=4 then if e.iff=0 then ⟨#[]⟩ else ⟨#[105,102,32]⟩++⟨(decL e.iff.toNat).toArray⟩
 else if p=5 then lineOf e.val
 else if p=6 then ⟨#[63]⟩
 else if p=7 then lineM (ansM e.pred)
 else if p=8 then prE e.eds
 else if p=9 then ⟨(decL e.num.toNat).toArray⟩
 else ⟨(decL e.stamp.toNat).toArray⟩
theorem temp_le {s:ByteArray} (h:tempB s.data.toList=true):s.size≤32:=by
 have e:s.size=s.data.toList.length:=rfl
 rw [e]
 unfold tempB spell at h
 split at h
 ·cases h
 ·rename_i c r he
  simp only [Bool.and_eq_true,decide_eq_true_eq] at h
  rw [he,List.length_cons];exact h.1.1
set_option maxHeartbeats 4000000 in
theorem oppiece_any (x:Ex) (p:Nat) (w:World) (hx:ExIn w x) (hv:OpVars w) (h1:1≤p) (h2:p≤10) (hf:fitPt x.en p=true) :
  Calls Tryz.prog 46 #[aggEx x,.int .i64 p] w fun e w'=>e=.returned (.string (pieceS x.en p))∧Below w.heap.size w w':=by
 have HK:=hid (mayK_new hx)
 have hm:x.temp.size≤maxLen:=hx.temp
 have ha:x.ka.size≤maxLen:=hx.ka
 have hbk:x.kb.size≤maxLen:=hx.kb
 have HF:=hid hf
 have HV:=hid (hv.on HK.out.bel)
 have ht0:0≤x.stamp:=hx.t0
 have ht1:x.stamp≤18446744073709551615:=hx.t1
 have HPM:=hid (pprint_any x.ps x.po _ HV.out.plain HK.out.ex.prd HK.out.ex.pfit)
 have HPE:=hid (pprintE_plain x.es x.eo _ HV.out.plain HK.out.ex.eds HK.out.ex.efit)
 have HPV:Hid (mayB (x.vo.map Fx.fld)=true→Calls Tryz.prog 89 #[x.vs] (w.alloc (.cells (encEx x).toArray 42)) fun e w'=>e=.returned (.tuple #[.string (lineOf (x.vo.map Fx.fld)),.int .i64 0])∧Below (w.alloc (.cells (encEx x).toArray 42)).heap.size (w.alloc (.cells (encEx x).toArray 42)) w') :=
  hid fun h=>print_yes x.vs x.vo _ HV.out.plain HK.out.ex.val HK.out.ex.fit h
 have HKB:=hid HK.out.bel
 unfold aggEx
 simp only [encEx,Ex.vs,Ex.es,Ex.ps] at HK HKB HV HPM HPE HPV ⊢
 clear hx hv hf
 have hp:p=1∨p=2∨p=3∨p=4∨p=5∨p=6∨p=7∨p=8∨p=9∨p=10:=by omega
 rcases hp with rfl|rfl|rfl|rfl|rfl|rfl|rfl|rfl|rfl|rfl
 ·by_cases ht:x.temp=⟨#[]⟩
  ·have hse:x.temp.toList.isEmpty=true:=by rw [ht,toList_data];rfl
   have HE:Hid (pieceS x.en 1=⟨#[]⟩):=hid (if_pos ht)
   clear ht
   go_enter Tryz.func46,Tryz.ntmps46
   go_wp2_with fail
   go_ret
   exact ⟨by rw [HE.out];rfl,HKB.out⟩
  ·have hse:x.temp.toList.isEmpty=false:=by
    rw [toList_data]
    cases hl:x.temp.data.toList with
    | nil=>exact absurd (ba_nil hl) ht
    | cons _ _=>rfl
   have HE:Hid (pieceS x.en 1=⟨#[64]⟩++x.temp):=hid (if_neg ht)
   have hsz:x.temp.size≤32:=by
    have h:=HF.out
    have h2:(decide (x.temp=⟨#[]⟩)||tempB x.temp.data.toList)=true:=h
    rw [decide_eq_false ht,Bool.false_or] at h2
    exact temp_le h2
   clear ht
   go_enter Tryz.func46,Tryz.ntmps46
   go_wp2_with fail
   go_ret
   exact ⟨by rw [HE.out];rfl,HKB.out⟩
 ·have hk:keyB x.ka x.kb=true:=HF.out
  obtain ⟨s1,s2⟩:=keyB_sizes hk
  go_enter Tryz.func46,Tryz.ntmps46
  go_wp2_with (go_at_call 87;refine (nprint_yes x.ka x.kb _ ha hbk s1 s2 hk).mono ?_;rintro e w1 ⟨rfl,hb1⟩;have HB1:=hid hb1;clear hb1)
  go_ret
  exact ⟨rfl,HKB.out.trans (HB1.out.mono HKB.out.size)⟩
 ·go_enter Tryz.func46,Tryz.ntmps46
  go_wp2_with fail
  go_ret
  exact ⟨rfl,HKB.out⟩
 ·have h:=HF.out
  have h3:(decide (0≤x.iff)&&decide (x.iff≤999999999))=true:=h
  simp only [Bool.and_eq_true,decide_eq_true_eq] at h3
  obtain ⟨n,hn⟩:∃n:Nat,x.iff=n:=⟨x.iff.toNat,by omega⟩
  have hn9:n≤999999999:=by omega
  by_cases h0:n=0
  ·have HE:Hid (pieceS x.en 4=⟨#[]⟩):=hid (by
    show (if x.iff=0 then (⟨#[]⟩:ByteArray) else _)=_
    rw [if_pos (by omega)])
   have hq:(x.iff != 0)=false:=by rw [hn,h0];rfl
   clear hn h0 h3 h
   go_enter Tryz.func46,Tryz.ntmps46
   go_wp2_with fail
   go_ret
   exact ⟨by rw [HE.out];rfl,HKB.out⟩
  ·have HE:Hid (pieceS x.en 4=⟨#[105,102,32]⟩++⟨(decL n).toArray⟩):=hid (by
    show (if x.iff=0 then (⟨#[]⟩:ByteArray) else ⟨#[105,102,32]⟩++⟨(decL x.iff.toNat).toArray⟩)=_
    rw [if_neg (by omega),hn];rfl)
   have hq:(x.iff != 0)=true:=by rw [bne_iff_ne];omega
   have HI:Hid (∀W,OpVars W→Calls Tryz.prog 88 #[.int .i64 x.iff] W fun e w'=>e=.returned (.string ⟨(decL n).toArray⟩)∧Below W.heap.size W w'):=hid fun W h=>by rw [hn];exact itoa_any n hn9 W h
   have hdl:(decL n).length≤9:=decL_len n 8 (by omega)
   clear hn h3 h
   go_enter Tryz.func46,Tryz.ntmps46
   go_wp2_with (go_at_call 88;refine (HI.out _ HV.out).mono ?_;rintro e w1 ⟨rfl,hb1⟩;have HB1:=hid hb1;clear hb1)
   go_ret
   exact ⟨by rw [HE.out];rfl,HKB.out.trans (HB1.out.mono HKB.out.size)⟩
 ·have hk:mayB (x.vo.map Fx.fld)=true:=HF.out
  go_enter Tryz.func46,Tryz.ntmps46
  go_wp2_with (go_at_call 89;refine (HPV.out hk).mono ?_;rintro e w1 ⟨rfl,hb1⟩;have HB1:=hid hb1;clear hb1)
  go_ret
  exact ⟨rfl,HKB.out.trans (HB1.out.mono HKB.out.size)⟩
 ·go_enter Tryz.func46,Tryz.ntmps46
  go_wp2_with fail
  go_ret
  exact ⟨rfl,HKB.out⟩
 ·go_enter Tryz.func46,Tryz.ntmps46
  go_wp2_with (go_at_call 90;refine HPM.out.mono ?_;rintro e w1 ⟨rfl,hb1⟩;have HB1:=hid hb1;clear hb1)
  go_ret
  exact ⟨rfl,HKB.out.trans (HB1.out.mono HKB.out.size)⟩
 ·go_enter Tryz.func46,Tryz.ntmps46
  go_wp2_with (go_at_call 91;refine HPE.out.mono ?_;rintro e w1 ⟨rfl,hb1⟩;have HB1:=hid hb1;clear hb1)
  go_ret
  exact ⟨rfl,HKB.out.trans (HB1.out.mono HKB.out.size)⟩
 ·have h:=HF.out
  have h3:(decide (0≤x.num)&&decide (x.num≤999999999))=true:=h
  simp only [Bool.and_eq_true,decide_eq_true_eq] at h3
  obtain ⟨n,hn⟩:∃n:Nat,x.num=n:=⟨x.num.toNat,by omega⟩
  have HE:Hid (pieceS x.en 9=⟨(decL n).toArray⟩):=hid (by
   show (⟨(decL x.num.toNat).toArray⟩:ByteArray)=_
   rw [hn];rfl)
  have HI:Hid (∀W,OpVars W→Calls Tryz.prog 88 #[.int .i64 x.num] W fun e w'=>e=.returned (.string ⟨(decL n).toArray⟩)∧Below W.heap.size W w'):=hid fun W h=>by rw [hn];exact itoa_any n (by omega) W h
  clear hn h3 h
  go_enter Tryz.func46,Tryz.ntmps46
  go_wp2_with (go_at_call 88;refine (HI.out _ HV.out).mono ?_;rintro e w1 ⟨rfl,hb1⟩;have HB1:=hid hb1;clear hb1)
  go_ret
  exact ⟨by rw [HE.out];rfl,HKB.out.trans (HB1.out.mono HKB.out.size)⟩
 ·obtain ⟨n,hn⟩:∃n:Nat,x.stamp=n:=⟨x.stamp.toNat,by omega⟩
  have HE:Hid (pieceS x.en 10=⟨(decL n).toArray⟩):=hid (by
   show (⟨(decL x.stamp.toNat).toArray⟩:ByteArray)=_
   rw [hn];rfl)
  have HI:Hid (∀W,OpVars W→Calls Tryz.prog 92 #[.int .u64 x.stamp,.int .i64 10] W fun e w'=>e=.returned (.string ⟨(decL n).toArray⟩)∧Below W.heap.size W w'):=hid fun W h=>by rw [hn];exact fmtu_any n (by omega) W h
  clear hn
  go_enter Tryz.func46,Tryz.ntmps46
  go_wp2_with (go_at_call 92;refine (HI.out _ HV.out).mono ?_;rintro e w1 ⟨rfl,hb1⟩;have HB1:=hid hb1;clear hb1)
  go_ret
  exact ⟨by rw [HE.out];rfl,HKB.out.trans (HB1.out.mono HKB.out.size)⟩
end
section
open Go.RowKit Go.Lib
theorem prE_le (l:List Ed):(prE l).size≤83600:=by
 unfold prE
 split
 ·rename_i h
  obtain ⟨h1,h2,_,h4⟩:=mayE_zero h
  refine Nat.le_trans (lineE_size (by simpa using h1) fun y hy=>?_) (by omega)
  obtain ⟨x,hx,rfl⟩:=List.mem_map.1 hy
  exact wordE_len (h2 x hx) (h4 x hx)
 ·exact Nat.zero_le _
theorem lineM_le (p:List Tm):(lineM (ansM p)).size≤83600:=by
 refine lineB_size (by have:=ansM_len p;simp;omega) fun y hy=>?_
 obtain ⟨x,hx,rfl⟩:=List.mem_map.1 hy
 exact wordM_len (ansM_all x hx).1 (ansM_all x hx).2.2
theorem piece_le (e:En) (p:Nat) (h1:1≤p) (h2:p≤10) (hf:fitPt e p=true) (hs0:0≤e.stamp) (hs1:e.stamp≤18446744073709551615):(pieceS e p).size≤83600:=by
 have hp:p=1∨p=2∨p=3∨p=4∨p=5∨p=6∨p=7∨p=8∨p=9∨p=10:=by omega
 rcases hp with rfl|rfl|rfl|rfl|rfl|rfl|rfl|rfl|rfl|rfl
 ·show (if e.temp=⟨#[]⟩ then (⟨#[]⟩:ByteArray) else ⟨#[64]⟩++e.temp).size≤_
  have hf':(decide (e.temp=⟨#[]⟩)||tempB e.temp.data.toList)=true:=hf
  split
  ·decide
  ·rename_i h
   rw [decide_eq_false h,Bool.false_or] at hf'
   have:=temp_le hf'
   simp only [ByteArray.size_append]
   have e1:(⟨#[64]⟩:ByteArray).size=1:=rfl
   omega
 ·have hk:keyB e.ka e.kb=true:=hf
  obtain ⟨s1,s2⟩:=keyB_sizes hk
  show (e.ka++⟨#[47]⟩++e.kb).size≤_
  simp only [ByteArray.size_append]
  have e1:(⟨#[47]⟩:ByteArray).size=1:=rfl
  omega
 ·have hf':(typeB e.ka.data.toList&&decide (e.kb=⟨#[]⟩))=true:=hf
  rw [Bool.and_eq_true] at hf'
  have:=typeB_len hf'.1
  show e.ka.size≤_
  have e1:e.ka.data.toList.length=e.ka.size:=rfl
  omega
 ·have hf':(decide (0≤e.iff)&&decide (e.iff≤999999999))=true:=hf
  simp only [Bool.and_eq_true,decide_eq_true_eq] at hf'
  show (if e.iff=0 then (⟨#[]⟩:ByteArray) else ⟨#[105,102,32]⟩++⟨(decL e.iff.toNat).toArray⟩).size≤_
  split
  ·decide
  ·have:=decL_len e.iff.toNat 8 (by omega)
   simp only [ByteArray.size_append]
   have e1:(⟨#[105,102,32]⟩:ByteArray).size=3:=rfl
   have e2:(⟨(decL e.iff.toNat).toArray⟩:ByteArray).size=(decL e.iff.toNat).length:=rfl
   omega
 ·have:=line_size (fs:=e.val) hf
  show (lineOf e.val).size≤_
  omega
 ·show (⟨#[63]⟩:ByteArray).size≤_;decide
 ·exact lineM_le _
 ·exact prE_le _
 ·have hf':(decide (0≤e.num)&&decide (e.num≤999999999))=true:=hf
  simp only [Bool.and_eq_true,decide_eq_true_eq] at hf'
  have:=decL_len e.num.toNat 8 (by omega)
  show (decL e.num.toNat).length≤_
  omega
 ·have:=decL_len e.stamp.toNat 19 (by omega)
  show (decL e.stamp.toNat).length≤_
  omega
def pcs (e:En) (ps:List Nat):List ByteArray:=(ps.map (pieceS e)).filter fun s=>decide (s≠⟨#[]⟩)
theorem pcs_snoc (e:En) (ps:List Nat) (p:Nat):pcs e (ps++[p])=pcs e ps++(if pieceS e p=⟨#[]⟩ then [] else [pieceS e p]):=by
 unfold pcs
 rw [List.map_append,List.filter_append]
 congr 1
 by_cases h:pieceS e p=⟨#[]⟩<;>simp [h]
theorem pcs_len (e:En) (ps:List Nat):(pcs e ps).length≤ps.length:=by
 unfold pcs
 exact Nat.le_trans (List.length_filter_le _ _) (by simp)
def lineO (e:En):ByteArray:=textW (⟨(nameN e.kind.toNat).toArray⟩::pcs e (shapeN e.kind.toNat))
theorem words_own {n0:Nat} {w:World} {p:Option Addr} {cap:Nat} {ws:List ByteArray} (h:OwnT n0 w (.slice p ws.length cap) ws) (h0:ws≠[]):WordsAt w (.slice p ws.length cap) ws:=by
 rcases h.2 with ⟨_,h1⟩|⟨g,c,cur,hv,_,hg,hcap,_,hsz,htk⟩
 ·exact absurd (List.length_eq_zero_iff.1 h1) h0
 ·injection hv with hp hl hc
  subst hp
  subst hc
  refine ⟨g,0,cap,rfl,hcap,(Array.getElem?_eq_some_iff.1 hg).1,fun j x hj=>?_⟩
  have hjl:=(List.getElem?_eq_some_iff.1 hj).1
  rw [Nat.zero_add,cell_of_row w g j cur _ _ hg,←Array.getElem?_toList]
  have:(ws.map Value.string)[j]? = cur.toList[j]?:=by rw [←htk,List.getElem?_take,if_pos (by omega)]
  rw [←this,List.getElem?_map,hj];rfl
theorem name_le (k:Nat):(nameN k).length≤7:=by
 unfold nameN
 split<;>simp
theorem text_small (ws:List ByteArray) (hl:ws.length≤6) (hs:∀x∈ws,x.size≤83600):(textW ws).size≤600000:=by
 have h:=join_size 83600 (ws.map (·.data.toList)) (fun l hl=>by
  obtain ⟨x,hx,rfl⟩:=List.mem_map.1 hl
  have:=hs x hx
  simpa using this)
 rw [List.length_map] at h
 have h2:ws.length * 83601≤6 * 83601:=Nat.mul_le_mul_right _ hl
 have e:(textW ws).size=(Lib.join (ws.map (·.data.toList)) [32]).length:=rfl
 omega
theorem line_le (e:En) (hf:(shapeN e.kind.toNat).all (fitPt e)=true) (hs0:0≤e.stamp) (hs1:e.stamp≤18446744073709551615):(lineO e).size≤600000:=by
 refine text_small _ ?_ fun x hx=>?_
 ·have h1:=pcs_len e (shapeN e.kind.toNat)
  have h2:=shape_le e.kind.toNat
  rw [List.length_cons];omega
 ·rcases List.mem_cons.1 hx with rfl|hx
  ·have:=name_le e.kind.toNat
   show (nameN e.kind.toNat).length≤_
   omega
  ·unfold pcs at hx
   obtain ⟨p,hp,rfl⟩:=List.mem_map.1 (List.mem_filter.1 hx).1
   obtain ⟨i,hi⟩:=List.getElem?_of_mem hp
   obtain ⟨h1,h2⟩:=shape_part _ i p hi
   exact piece_le e p h1 h2 (List.all_eq_true.1 hf p hp) hs0 hs1
set_option maxHeartbeats 8000000 in
set_option maxRecDepth 100000 in
theorem opline_any (x:Ex) (w:World) (hx:ExIn w x) (hv:OpVars w) (hr:1≤x.kind∧x.kind≤12) (hf:(shapeN x.kind.toNat).all (fitPt x.en)=true) :
  Calls Tryz.prog 25 #[aggEx x] w fun e w'=>e=.returned (.string (lineO x.en))∧Below w.heap.size w w':=by
 obtain ⟨i0,hi0,hz0,hz1,hz2⟩:=info_parts Tryz.infoStr
 have HI:=hid hi0
 have HX:=hid hx
 have HV:=hid hv
 have HLE:=hid (line_le x.en hf hx.t0 hx.t1)
 have hal:Below w.heap.size w (w.alloc (.cells (encEx x).toArray 42)):=(Below.refl _ _).alloc (Nat.le_refl _) _
 have hb0:(w.alloc (.cells (encEx x).toArray 42)).heap[w.heap.size]? = some (.cells (encEx x).toArray 42 (0,0)):=heap_alloc_new w _
 have HAL:=hid hal
 have HB0:=hid hb0
 have HPC:Hid (∀W p,Below w.heap.size w W→1≤p→p≤10→fitPt x.en p=true→Calls Tryz.prog 46 #[aggEx x,.int .i64 (p:Nat)] W fun e w'=>e=.returned (.string (pieceS x.en p))∧Below W.heap.size W w'):=hid fun W p h h1 h2 h3=>oppiece_any x p W (HX.out.on h) (HV.out.on h) h1 h2 h3
 unfold aggEx at HPC ⊢
 simp only [encEx,Ex.vs,Ex.es,Ex.ps] at HAL HB0 HPC ⊢
 clear hal hb0 hx hv hi0
 obtain ⟨kw,hkw⟩:∃kw:Nat,x.kind=kw:=⟨x.kind.toNat,by omega⟩
 have hk1:1≤kw:=by omega
 have hk12:kw≤12:=by omega
 have hkn:x.kind.toNat=kw:=by omega
 rw [hkn] at hf
 have HF:=hid hf
 have HLO:Hid (lineO x.en=textW (⟨(nameN kw).toArray⟩::pcs x.en (shapeN kw))):=hid (by
  show textW (⟨(nameN x.kind.toNat).toArray⟩::pcs x.en (shapeN x.kind.toNat))=_
  rw [hkn])
 have HSH:Hid (∀W,Calls Tryz.prog 36 #[.int .i64 x.kind] W fun e w'=>(∃a n,e=.returned (.tuple #[.string ⟨(nameN kw).toArray⟩,.slice a n n])∧n=(shapeN kw).length ∧
   ∀(j p:Nat),(shapeN kw)[j]? = some p→∃P,a=some ⟨P,0,none⟩∧W.heap.size≤P∧w'.cell? ⟨P,j,none⟩=some (.int .i64 p))∧Below W.heap.size W w'):=hid fun W=>by rw [hkw];exact shape_any kw W hk12
 clear hkw hr hf hkn
 go_enter Tryz.func25,Tryz.ntmps25
 go_wp2_with fail
 refine (HSH.out _).mono ?_
 rintro e w3 ⟨⟨a,n,rfl,hn,hpt⟩,hb3⟩
 have HN:=hid hn
 have HB3:=hid (HAL.out.trans (hb3.mono HAL.out.size))
 have HBX:Hid (w3.heap[w.heap.size]? = some (.cells #[.int .i64 x.kind,.string x.temp,.string x.ka,.string x.kb,.int .i64 x.iff,.slice x.vp x.vo.length x.vc,.slice x.ep x.eo.length x.ec,.slice x.pp x.po.length x.pc,.int .u64 x.stamp,.int .i64 x.num] 42 (0,0))):=hid ((hb3.block _ (by simp)).trans HB0.out)
 have HPT:Hid (∀(j p:Nat),(shapeN kw)[j]? = some p→∃P,a=some ⟨P,0,none⟩∧w3.cell? ⟨P,j,none⟩=some (.int .i64 p)):=hid fun j p hp=>by
  obtain ⟨P,h1,h2,h3⟩:=hpt j p hp
  exact ⟨P,h1,h3⟩
 clear hn hpt hb3
 have HO0:Hid (OwnT w3.heap.size (w3.alloc (.cells #[.string ⟨(nameN kw).toArray⟩] 9)) (.slice (some ⟨w3.heap.size,0,none⟩) 1 1) [⟨(nameN kw).toArray⟩]):=hid (World.ownsRow_lit w3 #[.string ⟨(nameN kw).toArray⟩] 1 (Nat.le_refl _) (by decide) rfl)
 have HB4:Hid (Below w3.heap.size w3 (w3.alloc (.cells #[.string ⟨(nameN kw).toArray⟩] 9))):=hid ((Below.refl _ _).alloc (Nat.le_refl _) _)
 go_wp2_with fail
 go_loopg [5,19] n (fun g vs vi wr=>∃(i:Nat) (acc:List ByteArray),vi=.int .i64 i∧i≤n∧n-i≤g∧Hid (Below w3.heap.size w3 wr)∧Hid (OwnT w3.heap.size wr vs acc)∧Hid (acc=⟨(nameN kw).toArray⟩::pcs x.en ((shapeN kw).take i))∧acc.length≤i+1)
 case atStart=>exact ⟨0,_,rfl,by omega,by omega,HB4,HO0,hid rfl,by simp⟩
 case round =>
  obtain ⟨i,acc,rfl,hi,hig,HB,HO,HAC,hal⟩:=hrel
  have hn5:n≤5:=by rw [HN.out];exact shape_le kw
  by_cases hlt:i<n
  ·have HLT:=hid hlt
   have hltz:(i:Int)<(n:Int):=by omega
   have hiz:(0:Int)≤(i:Int):=by omega
   obtain ⟨p,hp⟩:∃p,(shapeN kw)[i]? = some p:=⟨_,List.getElem?_eq_getElem (by rw [←HN.out];exact hlt)⟩
   obtain ⟨P,hPa,hPc0⟩:=HPT.out i p hp
   subst hPa
   have hPc:wr.cell? ⟨P,i,none⟩=some (.int .i64 p):=(HB.out.cell (p:=⟨P,i,none⟩) (cell_lt hPc0)).trans hPc0
   obtain ⟨hp1,hp10⟩:=shape_part kw i p hp
   have HTK:Hid ((shapeN kw).take (i+1)=(shapeN kw).take i++[p]):=hid (by
    obtain ⟨h1,h2⟩:=List.getElem?_eq_some_iff.1 hp
    rw [←h2];exact List.take_succ_eq_append_getElem h1)
   have HFP:=hid (List.all_eq_true.1 HF.out p (List.mem_of_getElem? hp))
   clear hp hPc0
   have hbx:wr.heap[w.heap.size]? = some (.cells #[.int .i64 x.kind,.string x.temp,.string x.ka,.string x.kb,.int .i64 x.iff,.slice x.vp x.vo.length x.vc,.slice x.ep x.eo.length x.ec,.slice x.pp x.po.length x.pc,.int .u64 x.stamp,.int .i64 x.num] 42 (0,0)):=(HB.out.block _ (Array.getElem?_eq_some_iff.1 HBX.out).1).trans HBX.out
   have c0:wr.cell? ⟨w.heap.size,0,none⟩=some (.int .i64 x.kind):=cz hbx
   have c1:wr.cell? ⟨w.heap.size,1,none⟩=some (.string x.temp):=cz hbx
   have c2:wr.cell? ⟨w.heap.size,2,none⟩=some (.string x.ka):=cz hbx
   have c3:wr.cell? ⟨w.heap.size,3,none⟩=some (.string x.kb):=cz hbx
   have c4:wr.cell? ⟨w.heap.size,4,none⟩=some (.int .i64 x.iff):=cz hbx
   have c5:wr.cell? ⟨w.heap.size,5,none⟩=some (.slice x.vp x.vo.length x.vc):=cz hbx
   have c6:wr.cell? ⟨w.heap.size,6,none⟩=some (.slice x.ep x.eo.length x.ec):=cz hbx
   have c7:wr.cell? ⟨w.heap.size,7,none⟩=some (.slice x.pp x.po.length x.pc):=cz hbx
   have c8:wr.cell? ⟨w.heap.size,8,none⟩=some (.int .u64 x.stamp):=cz hbx
   have c9:wr.cell? ⟨w.heap.size,9,none⟩=some (.int .i64 x.num):=cz hbx
   have HBW:=hid (HB3.out.trans (HB.out.mono HB3.out.size))
   clear hbx
   go_wp2_with fail
   refine (HPC.out wr p HBW.out hp1 hp10 HFP.out).mono ?_
   rintro e w5 ⟨rfl,hb5⟩
   have HB5:=hid (HB.out.trans (hb5.mono HB.out.size))
   have HO5:=hid (OwnT.on HO.out hb5)
   have hsz5:=HB5.out.size
   clear hb5 c0 c1 c2 c3 c4 c5 c6 c7 c8 c9 hPc
   have HSN:=hid (pcs_snoc x.en ((shapeN kw).take i) p)
   obtain ⟨wd,hwd⟩:∃wd,pieceS x.en p=wd:=⟨_,rfl⟩
   rw [hwd] at HSN ⊢
   clear hwd
   by_cases hw:wd=⟨#[]⟩
   ·have HSN2:Hid (acc=⟨(nameN kw).toArray⟩::pcs x.en ((shapeN kw).take (i+1))):=hid (by
     rw [HTK.out,HSN.out,if_pos hw,List.append_nil];exact HAC.out)
    have hse:wd.toList.isEmpty=true:=by rw [hw,toList_data];rfl
    clear hw
    go_wp2_with fail
    go_roundg (n-(i+1))
    case measure=>omega
    exact ⟨i+1,acc,by go_num,HLT.out,Nat.le_refl _,HB5,HO5,HSN2,by omega⟩
   ·have HSN2:Hid (acc++[wd]=⟨(nameN kw).toArray⟩::pcs x.en ((shapeN kw).take (i+1))):=hid (by
     rw [HTK.out,HSN.out,if_neg hw,←List.cons_append,←HAC.out])
    have hse:wd.toList.isEmpty=false:=by
     rw [toList_data]
     cases hl:wd.data.toList with
     | nil=>exact absurd (ba_nil hl) hw
     | cons _ _=>rfl
    have HO6:=hid (OwnT.on HO5.out ((Below.refl _ w5).alloc (Nat.le_refl _) (.cells #[.string wd] 9)))
    clear hw
    go_wp2_with (at_builtin;refine wpList_append_own _ rfl _ _ 43 rfl w3.heap.size 9 i0 (.string ⟨#[]⟩) 1 16 Tryz.underlying43 HI.out hz0 hz1 hz2 rfl (by decide) _ _ _ rfl HO6.out _ 1 1 [.string wd] rfl rfl (by intro j u hj;match j,hj with|0,hj=>simp at hj;subst hj;simp [Addr.add]) (by intro u hu;simp at hu;subst hu;rfl) (by unfold maxLen;omega) (by omega) (by simp;omega) ?_;intro v4 w4 hown4 hg4 hnil4;have HO7:=hid hown4;have HG7:=hid hg4;clear hown4 hg4 hnil4)
    go_roundg (n-(i+1))
    case measure=>omega
    refine ⟨i+1,acc++[wd],by go_num,HLT.out,Nat.le_refl _,hid ?_,hid (own_snoc HO7.out),HSN2,by rw [List.length_append];simp only [List.length_cons,List.length_nil];omega⟩
    have hb6:Below w3.heap.size w3 (w5.alloc (.cells #[.string wd] 9)):=HB5.out.alloc hsz5 _
    exact hb6.grown HG7.out hb6.size (fun k hk=>(World.ownsRow.lt HO6.out k hk).1)
  ·have hltz:¬ (i:Int)<(n:Int):=by omega
   have HAC2:Hid (acc=⟨(nameN kw).toArray⟩::pcs x.en (shapeN kw)):=hid (by rw [HAC.out,List.take_of_length_le (by rw [←HN.out];omega)])
   obtain ⟨p4,cap4,hv4⟩:=own_slice HO.out
   subst hv4
   have HTX:Hid (textW acc=lineO x.en):=hid (by rw [HLO.out,HAC2.out])
   have HJ:=hid (opjoin_any wr _ acc (words_own HO.out (by rw [HAC2.out];simp)) (by rw [HTX.out];have:=HLE.out;omega) (by omega))
   go_wp2_with (go_at_call 26;refine HJ.out.mono ?_;rintro e w2 ⟨rfl,hb2⟩;have HB9:=hid ((HB3.out.trans (HB.out.mono HB3.out.size)).trans (hb2.mono (HB3.out.trans (HB.out.mono HB3.out.size)).size));clear hb2)
   go_ret
   exact ⟨by rw [←HTX.out];rfl,HB9.out⟩
end
section
open Go.RowKit Go.Lib
def join3 (ls:List ByteArray):ByteArray:=⟨(Lib.join (ls.map (·.data.toList)) [32,59,32]).toArray⟩
def printO (once:Bool) (es:List En):ByteArray:=(if once=true then ⟨#[111,110,99,101,32]⟩ else ⟨#[]⟩)++join3 (es.map lineO)
theorem join3_size (c:Nat):∀ws:List (List UInt8),(∀w∈ws,w.length≤c)→(Lib.join ws [32,59,32]).length≤ws.length * (c+3)
 | [],_=>by simp [Lib.join,List.intercalate]
 | [w],h=>by
  have:=h w (by simp)
  rw [Lib.join_one]
  simp only [List.length_cons,List.length_nil];omega
 | w::v::ws,h=>by
  have ih:=join3_size c (v::ws) fun u hu=>h u (by simp [hu])
  have hw:=h w (by simp)
  have e:Lib.join (w::v::ws) [32,59,32]=w++([32,59,32]++Lib.join (v::ws) [32,59,32]):=by simp [Lib.join,List.intercalate]
  rw [e,List.length_append,List.length_append]
  simp only [List.length_cons,List.length_nil] at ih ⊢
  have:(ws.length+1+1) * (c+3)=(ws.length+1) * (c+3)+(c+3):=by rw [Nat.add_mul (ws.length+1) 1];omega
  omega
theorem mayO_parts {x:Ex} (h:mayO x=true):(1≤x.kind∧x.kind≤12)∧(shapeN x.kind.toNat).all (fitPt x.en)=true∧(leftE x (shapeN x.kind.toNat)).en=(zeroEx 0).en:=by
 unfold mayO at h
 simp only [Bool.and_eq_true,decide_eq_true_eq] at h
 exact ⟨h.1.1,h.1.2,h.2⟩
set_option maxHeartbeats 8000000 in
set_option maxRecDepth 100000 in
theorem opPrint_any (once:Bool) (v:Value) (d:List Ex) (w:World) (hd:RqIn w v d) (hv:OpVars w) :
  Calls Tryz.prog 10 #[.agg #[.bool once,v]] w fun e w' =>
   e=.returned (.tuple #[.string (if mayRO d=true then printO once (d.map Ex.en) else ⟨#[]⟩),.int .i64 (if mayRO d=true then 0 else 4)])∧Below w.heap.size w w':=by
 obtain ⟨i0,hi0,hz0,hz1,hz2⟩:=info_parts Tryz.infoStr
 have HI:=hid hi0
 have HD:=hid hd
 have HV:=hid hv
 obtain ⟨a,cap,rfl,hrow⟩:=hd.row
 have hlen:=hd.len
 have HR:=hid hrow
 have HAL:Hid (Below w.heap.size w (w.alloc (.cells #[.bool once,.slice a d.length cap] 25))):=hid ((Below.refl _ _).alloc (Nat.le_refl _) _)
 have HBX:Hid ((w.alloc (.cells #[.bool once,.slice a d.length cap] 25)).heap[w.heap.size]? = some (.cells #[.bool once,.slice a d.length cap] 25 (0,0))):=hid (heap_alloc_new w _)
 have HMY:=hid (opMay_any once (.slice a d.length cap) d _ (hd.on HAL.out))
 clear hd hrow hv hi0
 cases hm:mayRO d with
 | false =>
  rw [hm] at HMY
  go_enter Tryz.func10,Tryz.ntmps10
  go_wp2_with (go_at_call 12;refine HMY.out.mono ?_;rintro e w1 ⟨rfl,hb1⟩;have HB1:=hid (HAL.out.trans (hb1.mono HAL.out.size));clear hb1)
  go_ret2
  exact ⟨rfl,HB1.out⟩
 | true =>
  rw [hm] at HMY
  have hm2:=hm
  unfold mayRO at hm2
  simp only [Bool.and_eq_true,decide_eq_true_eq] at hm2
  obtain ⟨⟨hl0,hl16⟩,hall⟩:=hm2
  have HALL:=hid hall
  obtain ⟨b,off,rfl,hat⟩:∃b off,a=some ⟨b,off,none⟩∧KEx.At w b off d:=by
   rcases HR.out with h|⟨b,off,h1,h2⟩
   ·rw [h] at hl0;simp at hl0
   ·exact ⟨b,off,h1,h2⟩
  have HAT:=hid hat
  clear hat HR hall hm
  go_enter Tryz.func10,Tryz.ntmps10
  go_wp2_with fail
  refine HMY.out.mono ?_
  rintro e w1 ⟨rfl,hb1⟩
  have HB1:=hid (HAL.out.trans (hb1.mono HAL.out.size))
  have hbx:w1.heap[w.heap.size]? = some (.cells #[.bool once,.slice (some ⟨b,off,none⟩) d.length cap] 25 (0,0)):=(hb1.block _ (by simp)).trans HBX.out
  obtain ⟨e0,e1,_,_⟩:=two_facts hbx
  have HBX1:=hid hbx
  clear hbx hb1
  go_wp2_with fail
  go_loopg [4,14] d.length (fun g vs vi wr=>∃(i:Nat),vi=.int .i64 i∧i≤d.length∧d.length-i≤g∧Hid (Below w1.heap.size w1 wr)∧Hid (OwnT w1.heap.size wr vs ((d.take i).map fun x=>lineO x.en)))
  case atStart=>exact ⟨0,rfl,by omega,by omega,hid (Below.refl _ _),hid (World.ownsRow_nil _ _ _ _)⟩
  case round =>
   obtain ⟨i,rfl,hi,hig,HB,HO⟩:=hrel
   have HBW:=hid (HB1.out.trans (HB.out.mono HB1.out.size))
   by_cases hlt:i<d.length
   ·have HLT:=hid hlt
    have hltz:(i:Int)<(d.length:Int):=by omega
    have hiz:(0:Int)≤(i:Int):=by omega
    obtain ⟨y,hy⟩:∃y,d[i]? = some y:=⟨_,List.getElem?_eq_getElem hlt⟩
    obtain ⟨c0,c1,c2,c3,c4,c5,c6,c7,c8,c9⟩:=row_cellsQ (Kind.at_kept HAT.out HBW.out) i y hy
    simp only [Nat.add_zero] at c0
    have HMEM:=hid (List.mem_of_getElem? hy)
    have HTK:Hid ((d.take (i+1)).map (fun x=>lineO x.en)=(d.take i).map (fun x=>lineO x.en)++[lineO y.en]):=hid (by
     obtain ⟨h1,h2⟩:=List.getElem?_eq_some_iff.1 hy
     rw [←h2,List.take_succ_eq_append_getElem h1,List.map_append];rfl)
    have hmy:=mayO_parts (List.all_eq_true.1 HALL.out y HMEM.out)
    have HLN:Hid (∀W,Below w.heap.size w W→Calls Tryz.prog 25 #[.agg #[.int .i64 y.kind,.string y.temp,.string y.ka,.string y.kb,.int .i64 y.iff,.slice y.vp y.vo.length y.vc,.slice y.ep y.eo.length y.ec,.slice y.pp y.po.length y.pc,.int .u64 y.stamp,.int .i64 y.num]] W fun e w'=>e=.returned (.string (lineO y.en))∧Below W.heap.size W w'):=hid fun W h=>opline_any y W ((HD.out.each y HMEM.out).on h) (HV.out.on h) hmy.1 hmy.2.1
    have HB2:Hid (Below w.heap.size w (wr.alloc (.cells #[.int .i64 y.kind,.string y.temp,.string y.ka,.string y.kb,.int .i64 y.iff,.slice y.vp y.vo.length y.vc,.slice y.ep y.eo.length y.ec,.slice y.pp y.po.length y.pc,.int .u64 y.stamp,.int .i64 y.num] 42))):=hid (HBW.out.alloc HBW.out.size _)
    have HB3:Hid (Below w1.heap.size w1 (wr.alloc (.cells #[.int .i64 y.kind,.string y.temp,.string y.ka,.string y.kb,.int .i64 y.iff,.slice y.vp y.vo.length y.vc,.slice y.ep y.eo.length y.ec,.slice y.pp y.po.length y.pc,.int .u64 y.stamp,.int .i64 y.num] 42))):=hid (HB.out.alloc HB.out.size _)
    have hacl:((d.take i).map fun x=>lineO x.en).length=i:=by rw [List.length_map,List.length_take];omega
    obtain ⟨acc,hacc⟩:∃acc,(d.take i).map (fun x=>lineO x.en)=acc:=⟨_,rfl⟩
    rw [hacc] at HO HTK hacl
    have HO3:=hid (OwnT.on HO.out ((Below.refl _ wr).alloc (Nat.le_refl _) (.cells #[.int .i64 y.kind,.string y.temp,.string y.ka,.string y.kb,.int .i64 y.iff,.slice y.vp y.vo.length y.vc,.slice y.ep y.eo.length y.ec,.slice y.pp y.po.length y.pc,.int .u64 y.stamp,.int .i64 y.num] 42)))
    obtain ⟨wd,hwd⟩:∃wd,lineO y.en=wd:=⟨_,rfl⟩
    rw [hwd] at HLN HTK
    clear hy hmy hacc hwd
    go_wp2_with fail
    refine (HLN.out _ HB2.out).mono ?_
    rintro e w4 ⟨rfl,hb4⟩
    have HB4:=hid (HB3.out.trans (hb4.mono HB3.out.size))
    have hsz4:=HB4.out.size
    have HO4:=hid (OwnT.on (OwnT.on HO3.out hb4) ((Below.refl _ w4).alloc (Nat.le_refl _) (.cells #[.string wd] 9)))
    clear hb4 c0 c1 c2 c3 c4 c5 c6 c7 c8 c9
    go_wp2_with (at_builtin;refine wpList_append_own _ rfl _ _ 43 rfl w1.heap.size 9 i0 (.string ⟨#[]⟩) 1 16 Tryz.underlying43 HI.out hz0 hz1 hz2 rfl (by decide) _ _ _ rfl HO4.out _ 1 1 [.string wd] rfl rfl (by intro j u hj;match j,hj with|0,hj=>simp at hj;subst hj;simp [Addr.add]) (by intro u hu;simp at hu;subst hu;rfl) (by unfold maxLen;omega) (by omega) (by simp;omega) ?_;intro v4 w5 hown4 hg4 hnil4;have HO7:=hid hown4;have HG7:=hid hg4;clear hown4 hg4 hnil4)
    go_roundg (d.length-(i+1))
    case measure=>omega
    refine ⟨i+1,by go_num,HLT.out,Nat.le_refl _,hid ?_,hid (by rw [HTK.out];exact own_snoc HO7.out)⟩
    have hb6:Below w1.heap.size w1 (w4.alloc (.cells #[.string wd] 9)):=HB4.out.alloc hsz4 _
    exact hb6.grown HG7.out hb6.size (fun k hk=>(World.ownsRow.lt HO4.out k hk).1)
   ·have hltz:¬ (i:Int)<(d.length:Int):=by omega
    have htk:d.take i=d:=List.take_of_length_le (by omega)
    rw [htk] at HO
    obtain ⟨ws,hws⟩:∃ws,d.map (fun x=>lineO x.en)=ws:=⟨_,rfl⟩
    have hwl:ws.length=d.length:=by rw [←hws,List.length_map]
    have hwsz:∀l∈ws.map (·.data.toList),l.length≤600000:=fun l hl=>by
     obtain ⟨s,hs,rfl⟩:=List.mem_map.1 hl
     rw [←hws] at hs
     obtain ⟨y,hy,rfl⟩:=List.mem_map.1 hs
     have hp:=mayO_parts (List.all_eq_true.1 HALL.out y hy)
     have hex:=HD.out.each y hy
     exact line_le y.en hp.2.1 hex.t0 hex.t1
    have hjl:=join3_size 600000 (ws.map (·.data.toList)) hwsz
    rw [List.length_map] at hjl
    have hjl2:ws.length * 600003≤16 * 600003:=Nat.mul_le_mul_right _ (by omega)
    have HJ3:Hid ((join3 ws).size≤9600048):=hid (by
     have e:(join3 ws).size=(Lib.join (ws.map (·.data.toList)) [32,59,32]).length:=rfl
     omega)
    rw [hws] at HO
    have HPR:Hid (printO once (d.map Ex.en)=(if once=true then ⟨#[111,110,99,101,32]⟩ else ⟨#[]⟩)++join3 ws):=hid (by
     unfold printO
     rw [←hws,List.map_map];rfl)
    obtain ⟨p4,cap4,hv4⟩:=own_slice HO.out
    subst hv4
    have HJ:Hid (Calls Tryz.prog 26 #[.slice p4 ws.length cap4,.string ⟨#[32,59,32]⟩] wr fun e w'=>e=.returned (.string (join3 ws))∧Below wr.heap.size wr w'):=hid (by
     obtain ⟨bb,oo,cc,h1,h2,h3,h4⟩:=words_own HO.out (by intro q;rw [q] at hwl;simp at hwl;omega)
     injection h1 with a1 a2 a3
     subst a1 a3
     exact Tryz.strings_Join bb oo cap4 ws ⟨#[32,59,32]⟩ wr h4 h3 (by omega) h2 (by
      show (Lib.join (ws.map (·.data.toList)) [32,59,32]).length≤_
      omega))
    have hbx2:wr.heap[w.heap.size]? = some (.cells #[.bool once,.slice (some ⟨b,off,none⟩) d.length cap] 25 (0,0)):=(HB.out.block _ (Array.getElem?_eq_some_iff.1 HBX1.out).1).trans HBX1.out
    have HBX2:=hid hbx2
    clear hbx2 htk hws hwl hwsz hjl hjl2
    go_wp2_with fail
    refine HJ.out.mono ?_
    rintro e w2 ⟨rfl,hb2⟩
    have HB9:=hid (HBW.out.trans (hb2.mono HBW.out.size))
    obtain ⟨q0,q1,_,_⟩:=two_facts ((hb2.block _ (Array.getElem?_eq_some_iff.1 HBX2.out).1).trans HBX2.out)
    have hj3:=HJ3.out
    clear hb2
    cases once with
    | false =>
     have HPR2:Hid (printO false (d.map Ex.en)=join3 ws):=hid (by
      rw [HPR.out]
      apply ba_ext
      rw [ba_append];rfl)
     go_wp2_with fail
     go_ret2
     refine ⟨?_,HB9.out⟩
     show Ending.returned (.tuple #[.string (join3 ws),.int .i64 0])=_
     rw [←HPR2.out]
    | true =>
     have HPR2:Hid (printO true (d.map Ex.en)=⟨#[111,110,99,101,32]⟩++join3 ws):=hid (by rw [HPR.out];rfl)
     go_wp2_with fail
     go_ret2
     refine ⟨?_,HB9.out⟩
     show Ending.returned (.tuple #[.string (⟨#[111,110,99,101,32]⟩++join3 ws),.int .i64 0])=_
     rw [←HPR2.out]
end
section
open Go.RowKit Go.Lib
def wordsP (e:En) (p:Nat):List (List UInt8) :=
 if p=1 then if e.temp=⟨#[]⟩ then [] else [64::e.temp.data.toList]
 else if p=2 then [e.ka.data.toList++47::e.kb.data.toList]
 else if p=3 then [e.ka.data.toList]
 else if p=4 then if e.iff=0 then [] else [[105,102],decL e.iff.toNat]
 else if p=5 then bytesL (wordsL e.val)
 else if p=6 then [[63]]
 else if p=7 then bytesL (e.pred.map wordM)
 else if p=8 then bytesL (e.eds.map wordE)
 else if p=9 then [decL e.num.toNat]
 else [decL e.stamp.toNat]
theorem lineB_words (ws:List ByteArray):(lineB ws).data.toList=joinW (bytesL ws):=by rw [lineB_data];rfl
theorem piece_words {e:En} (h:MayP e) (p:Nat) (h1:1≤p) (h2:p≤10):(pieceS e p).data.toList=joinW (wordsP e p):=by
 have hp:p=1∨p=2∨p=3∨p=4∨p=5∨p=6∨p=7∨p=8∨p=9∨p=10:=by omega
 rcases hp with rfl|rfl|rfl|rfl|rfl|rfl|rfl|rfl|rfl|rfl
 ·show (if e.temp=⟨#[]⟩ then (⟨#[]⟩:ByteArray) else ⟨#[64]⟩++e.temp).data.toList=joinW (if e.temp=⟨#[]⟩ then [] else [64::e.temp.data.toList])
  split
  ·rfl
  ·rw [joinW_one,ba_append];rfl
 ·show (e.ka++⟨#[47]⟩++e.kb).data.toList=joinW [e.ka.data.toList++47::e.kb.data.toList]
  rw [joinW_one];exact cat_data _ _
 ·show e.ka.data.toList=joinW [e.ka.data.toList]
  rw [joinW_one]
 ·show (if e.iff=0 then (⟨#[]⟩:ByteArray) else ⟨#[105,102,32]⟩++⟨(decL e.iff.toNat).toArray⟩).data.toList=joinW (if e.iff=0 then [] else [[105,102],decL e.iff.toNat])
  split
  ·rfl
  ·rw [joinW_two,ba_append];rfl
 ·rfl
 ·show ([63]:List UInt8)=joinW [[63]]
  rw [joinW_one]
 ·show (lineM (ansM e.pred)).data.toList=joinW (bytesL (e.pred.map wordM))
  have ha:ansM e.pred=e.pred:=by unfold ansM;rw [if_pos h.mayp,h.srt]
  rw [ha];exact lineB_words _
 ·show (prE e.eds).data.toList=joinW (bytesL (e.eds.map wordE))
  unfold prE
  rw [if_pos h.maye];exact lineB_words _
 ·show decL e.num.toNat=joinW [decL e.num.toNat]
  rw [joinW_one]
 ·show decL e.stamp.toNat=joinW [decL e.stamp.toNat]
  rw [joinW_one]
theorem join_nil {w:List (List UInt8)} (h:∀x∈w,x≠[]) (q:joinW w=[]):w=[]:=by
 cases w with
 | nil=>rfl
 | cons x w =>
  exfalso
  by_cases hw:w=[]
  ·subst hw
   rw [joinW_one] at q
   exact h x (by simp) q
  ·rw [joinW_cons _ hw] at q
   simp at q
theorem partW_ne {e:En} (h:MayP e) (p:Nat) (h1:1≤p) (h2:p≤10):∀x∈wordsP e p,x≠[]:=by
 have hp:p=1∨p=2∨p=3∨p=4∨p=5∨p=6∨p=7∨p=8∨p=9∨p=10:=by omega
 rcases hp with rfl|rfl|rfl|rfl|rfl|rfl|rfl|rfl|rfl|rfl
 ·show ∀x∈(if e.temp=⟨#[]⟩ then [] else [64::e.temp.data.toList]),x≠[]
  split
  ·intro x hx;cases hx
  ·intro x hx;rw [List.mem_singleton] at hx;subst hx;simp
 ·intro x hx
  have:x=e.ka.data.toList++47::e.kb.data.toList:=List.mem_singleton.1 hx
  subst this;simp
 ·intro x hx
  have:x=e.ka.data.toList:=List.mem_singleton.1 hx
  subst this
  intro q
  have hk:=h.key
  unfold keyEn at hk
  split at hk
  ·simp only [Bool.and_eq_true] at hk
   rw [q] at hk;exact absurd hk.2 (by decide)
  ·have:=(keyB_two hk).1
   rw [q] at this;exact absurd this (by decide)
 ·show ∀x∈(if e.iff=0 then [] else [[105,102],decL e.iff.toNat]),x≠[]
  split
  ·intro x hx;cases hx
  ·intro x hx
   rcases List.mem_cons.1 hx with rfl|hx
   ·decide
   ·rw [List.mem_singleton] at hx;subst hx;exact decL_ne _
 ·intro x hx q
  have:=(valW_is h.mayv x hx).1
  rw [q] at this;simp at this
 ·intro x hx
  have:x=[63]:=List.mem_singleton.1 hx
  subst this;decide
 ·intro x hx q
  have:=(prdW_is h.mayp x hx).1
  rw [q] at this;simp at this
 ·intro x hx q
  have:=(edsW_is h.maye x hx).1
  rw [q] at this;simp at this
 ·intro x hx
  have:x=decL e.num.toNat:=List.mem_singleton.1 hx
  subst this;exact decL_ne _
 ·intro x hx
  have:x=decL e.stamp.toNat:=List.mem_singleton.1 hx
  subst this;exact decL_ne _
theorem join_pcs {e:En} (h:MayP e):∀ps:List Nat,(∀p∈ps,1≤p∧p≤10)→∀a:List (List UInt8),a≠[] →
  joinW (a++(pcs e ps).map (·.data.toList))=joinW (a++ps.flatMap (wordsP e))
 | [],_,a,_=>by simp [pcs]
 | p::ps,hp,a,ha=>by
  obtain ⟨h1,h2⟩:=hp p (by simp)
  have hw:=piece_words h p h1 h2
  have ih:=join_pcs h ps (fun q hq=>hp q (by simp [hq]))
  have hcons:pcs e (p::ps)=(if pieceS e p=⟨#[]⟩ then [] else [pieceS e p])++pcs e ps:=by
   unfold pcs
   by_cases hz:pieceS e p=⟨#[]⟩<;>simp [hz]
  rw [hcons,List.flatMap_cons]
  by_cases hz:pieceS e p=⟨#[]⟩
  ·have hn:wordsP e p=[]:=join_nil (partW_ne h p h1 h2) (by rw [←hw,hz])
   rw [if_pos hz,hn,List.nil_append,List.nil_append]
   exact ih a ha
  ·have hne:wordsP e p≠[]:=fun q=>hz (ba_nil (by rw [hw,q];rfl))
   rw [if_neg hz,List.map_append,List.map_cons,List.map_nil,←List.append_assoc,←List.append_assoc]
   have h3:=ih (a++wordsP e p) (by simp [ha])
   rw [←h3]
   have h4:joinW (a++[(pieceS e p).data.toList])=joinW (a++wordsP e p):=by
    rw [joinW_app a ha (by simp),joinW_app a ha hne,joinW_one,hw]
   by_cases hq:(pcs e ps).map (·.data.toList)=[]
   ·rw [hq,List.append_nil,List.append_nil,h4]
   ·rw [joinW_app _ (by simp) hq,joinW_app _ (by simp [ha]) hq,h4]
theorem if_swap {i:Int} {A:List (List UInt8)} (h:¬ i=0→0≤i∧i≤999999999):(if 0<i then A else [])=if i=0 then [] else A:=by
 by_cases h0:i=0
 ·rw [if_pos h0,if_neg (by omega)]
 ·rw [if_neg h0,if_pos (by have:=h h0;omega)]
theorem words_parts {e:En} (h:MayP e):wordsEn e=nameN e.kind.toNat::(shapeN e.kind.toNat).flatMap (wordsP e):=by
 obtain ⟨h1,h2,h3,h4,h5,h6,h7,h8,h9,h10,h11,h12,h13,h14⟩:=h
 obtain ⟨k,t,a,b,i,v,d,p,s,n⟩:=e
 simp only at h1 h2
 have hk:k=1∨k=2∨k=3∨k=4∨k=5∨k=6∨k=7∨k=8∨k=9∨k=10∨k=11∨k=12:=by omega
 have hkb:∀{a b:ByteArray},keyB a b=true→b≠⟨#[]⟩:=fun hk q=>by
  have:=(keyB_two hk).2
  rw [q] at this;exact absurd this (by decide)
 rcases hk with rfl|rfl|rfl|rfl|rfl|rfl|rfl|rfl|rfl|rfl|rfl|rfl
 all_goals
  simp [keyEn,typedK] at h3 h4 h5 h6 h7 h8 h10 h14
  simp_all [wordsEn,nameK,tailW,keyWd,shapeN,wordsP,bytesL,wordsL]
  try exact hkb h3
  try exact ⟨hkb h3,if_swap h5⟩
theorem line_is {e:En} (h:MayP e):(lineO e).data.toList=joinW (wordsEn e):=by
 have hs:∀p∈shapeN e.kind.toNat,1≤p∧p≤10:=fun p hp=>by
  obtain ⟨i,hi⟩:=List.getElem?_of_mem hp
  exact shape_part _ i p hi
 have hj:=join_pcs h (shapeN e.kind.toNat) hs [nameN e.kind.toNat] (by simp)
 rw [words_parts h]
 show joinW ((⟨(nameN e.kind.toNat).toArray⟩::pcs e (shapeN e.kind.toNat)).map (·.data.toList))=_
 rw [List.map_cons]
 exact hj
theorem join_three (x:List UInt8) {w:List (List UInt8)} (h:w≠[]):Lib.join (x::w) [32,59,32]=x++([32,59,32]++Lib.join w [32,59,32]):=by
 cases w with
 | nil=>exact absurd rfl h
 | cons y w=>simp [Lib.join,List.intercalate]
theorem entriesW_ne {l:List En} (h:l≠[]):entriesW l≠[]:=by
 match l with
 | []=>exact absurd rfl h
 | [e]=>simp [entriesW,wordsEn]
 | e::f::l=>simp [entriesW]
theorem lines_is:∀{es:List En},es≠[]→(∀e∈es,MayP e)→Lib.join ((es.map lineO).map (·.data.toList)) [32,59,32]=joinW (entriesW es)
 | [],h,_=>absurd rfl h
 | [e],_,h=>by
  simp only [List.map_cons,List.map_nil,Lib.join_one,entriesW]
  exact line_is (h e (by simp))
 | e::f::l,_,h=>by
  have ih:=lines_is (es:=f::l) (by simp) fun g hg=>h g (by simp [hg])
  rw [List.map_cons,List.map_cons,join_three _ (by simp),ih,line_is (h e (by simp))]
  simp only [entriesW]
  have hne:wordsEn e≠[]:=by simp [wordsEn]
  rw [joinW_app _ hne (by simp),joinW_cons _ (entriesW_ne (by simp))]
  rfl
theorem print_is {once:Bool} {es:List En} (h:mayRq es=true):(printO once es).data.toList=lineRq once es:=by
 have h':=h
 unfold mayRq at h'
 simp only [Bool.and_eq_true,decide_eq_true_eq,List.all_eq_true] at h'
 have hne:es≠[]:=List.length_pos_iff.1 h'.1.1
 have hl:=lines_is hne fun e he=>mayEn_parts (h'.2 e he)
 unfold printO lineRq wordsRq
 rw [ba_append]
 have hj:(join3 (es.map lineO)).data.toList=joinW (entriesW es):=hl
 rw [hj]
 cases once with
 | false=>rfl
 | true =>
  show [111,110,99,101,32]++joinW (entriesW es)=joinW ([onceW]++entriesW es)
  rw [joinW_app _ (by simp) (entriesW_ne hne),joinW_one]
  rfl
theorem op_back {once:Bool} {es:List En} (h:mayRq es=true) (hs:∀e∈es,0≤e.stamp∧e.stamp≤18446744073709551615):opR (printO once es).data.toList=some (once,es):=by
 rw [opR_is,print_is h,line_words h,rq_back h hs]
theorem mayRO_is (d:List Ex):mayRO d=mayRq (d.map Ex.en):=by
 unfold mayRO mayRq
 rw [List.length_map,List.all_map]
 congr 1
 apply List.all_congr rfl
 intro x
 exact mayO_is x
end
section
open Go.RowKit Go.Lib
def exT:ByteArray:=⟨#[111,110,99,101,32,117,112,100,97,116,101,32,80,97,116,105,101,110,116,47,112,49,32,105,102,32,50,32,110,97,109,101,61,66,111,32,59,32,115,101,97,114,99,104,32,80,97,116,105,101,110,116,32,110,97,109,101,94,65]⟩
def exU:En:=⟨3,⟨#[]⟩,⟨#[80,97,116,105,101,110,116]⟩,⟨#[112,49]⟩,2,[(⟨#[110,97,109,101]⟩,[⟨#[66,111]⟩])],[],[],0,0⟩
def exS:En:=⟨8,⟨#[]⟩,⟨#[80,97,116,105,101,110,116]⟩,⟨#[]⟩,0,[],[],[(⟨#[110,97,109,101]⟩,3,⟨#[65]⟩)],0,0⟩
theorem ex_may:mayRq [exU,exS]=true:=by kernel_rfl
theorem ex_dec:decL 2=[50]:=by rw [decL_one (by omega)];rfl
theorem ex_line:lineRq true [exU,exS]=exT.data.toList:=by
 have h1:wordsEn exU=[[117,112,100,97,116,101],[80,97,116,105,101,110,116,47,112,49],[105,102],[50],[110,97,109,101,61,66,111]]:=by
  have hr:wordsEn exU=nameN 3::(([]:List (List UInt8))++(([]:List (List UInt8))++keyWd exU::([[105,102],decL 2]++(bytesL (wordsL exU.val)++(bytesL (exU.eds.map wordE)++bytesL (exU.pred.map wordM)))))):=by rfl
  rw [hr,ex_dec]
  decide
 have h2:wordsEn exS=[[115,101,97,114,99,104],[80,97,116,105,101,110,116],[110,97,109,101,94,65]]:=by kernel_rfl
 unfold lineRq wordsRq
 simp only [entriesW,h1,h2]
 decide
theorem ex_print:(printO true [exU,exS])=exT:=ba_ext ((print_is ex_may).trans ex_line)
theorem ex_read:opR exT.data.toList=some (true,[exU,exS]):=by
 rw [←ex_print]
 exact op_back ex_may (fun e he=>by
  rcases List.mem_cons.1 he with rfl|he
  ·exact ⟨by decide,by decide⟩
  ·rw [List.mem_singleton] at he;subst he;exact ⟨by decide,by decide⟩)
theorem ex_none:opR []=none:=by rw [opR_is];rfl
theorem own_rq {n:Nat} {w:World} {v:Value} {d:List Ex} (h:KEx.Own n w v d) (hq:∀x∈d,OwnQ n x w) (hl:d.length≤4294967000):RqIn w v d :=
 ⟨Kind.own_is h,fun x hx=>(hq x hx).ex,hl⟩
set_option maxHeartbeats 8000000 in
set_option maxRecDepth 100000 in
theorem fixed16_any (w:World) (hv:OpVars w):Calls Tryz.prog 5 #[] w fun e w'=>e=.returned (.bool true)∧Below w.heap.size w w':=by
 have HV:=hid hv
 have HP1:Hid (Calls Tryz.prog 6 #[.string ⟨#[111,110,99,101,32,117,112,100,97,116,101,32,80,97,116,105,101,110,116,47,112,49,32,105,102,32,50,32,110,97,109,101,61,66,111,32,59,32,115,101,97,114,99,104,32,80,97,116,105,101,110,116,32,110,97,109,101,94,65]⟩] w fun e w'=>∃v d,e=.returned (.tuple #[.agg #[.bool true,v],.int .i64 0])∧RqIn w' v d∧d.map Ex.en=[exU,exS]∧Below w.heap.size w w'):=hid ((opparse_any exT w hv (by decide)).mono (by
  rintro e w' ⟨⟨once,v,d,c,rfl,ho,hq,hc⟩,hb⟩
  rcases hc with ⟨rfl,h⟩|⟨_,_,_,h⟩
  ·rw [ex_read] at h
   have h2:=Option.some.inj h
   have h3:true=once:=congrArg Prod.fst h2
   have h4:[exU,exS]=d.map Ex.en:=congrArg Prod.snd h2
   subst h3
   have hl:d.length=2:=by have:=congrArg List.length h4;simpa using this.symm
   exact ⟨v,d,rfl,own_rq ho hq (by omega),h4.symm,hb⟩
  ·rw [ex_read] at h;cases h))
 have HP0:Hid (∀W,Below w.heap.size w W→Calls Tryz.prog 6 #[.string ⟨#[]⟩] W fun e w'=>∃o pv nv cv,e=.returned (.tuple #[.agg #[.bool o,.slice pv nv cv],.int .i64 4])∧Below W.heap.size W w'):=hid fun W hW=>(opparse_any ⟨#[]⟩ W (HV.out.on hW) (by decide)).mono (by
  rintro e w' ⟨⟨once,v,d,c,rfl,ho,hq,hc⟩,hb⟩
  rcases hc with ⟨_,h⟩|⟨rfl,_,_,h⟩
  ·have h':opR []=some (once,d.map Ex.en):=h
   rw [ex_none] at h';cases h'
  ·obtain ⟨pv,cv,rfl⟩:=Kind.own_shape ho
   exact ⟨once,pv,_,cv,rfl,hb⟩)
 have HM0:Hid (∀W,Calls Tryz.prog 12 #[.agg #[.bool false,.slice none 0 0]] W fun e w'=>e=.returned (.bool false)∧Below W.heap.size W w'):=hid fun W=>(opMay_any false (.slice none 0 0) [] W ⟨⟨none,0,rfl,.inl rfl⟩,(fun x hx=>by cases hx),by decide⟩)
 clear hv
 go_enter Tryz.func5,Tryz.ntmps5
 go_wp2_with fail
 refine HP1.out.mono ?_
 rintro e w1 ⟨v,d,rfl,hd,hes,hb1⟩
 obtain ⟨x,y,rfl⟩:∃x y,d=[x,y]:=by
  have hl:d.length=2:=by have:=congrArg List.length hes;simpa using this
  match d,hl with
  | [x,y],_=>exact ⟨x,y,rfl⟩
 have hes2:[x.en,y.en]=[exU,exS]:=hes
 have hx:x.en=exU:=by injection hes2
 have hy:y.en=exS:=by injection hes2 with _ h2;injection h2
 clear hes2
 obtain ⟨a,cap,rfl,hrow⟩:=hd.row
 obtain ⟨b,off,rfl,hat⟩:∃b off,a=some ⟨b,off,none⟩∧KEx.At w1 b off [x,y]:=by
  rcases hrow with h|⟨b,off,h1,h2⟩
  ·cases h
  ·exact ⟨b,off,h1,h2⟩
 have hxi:x.iff=2:=congrArg En.iff hx
 have hxk:x.kind=3:=congrArg En.kind hx
 have hyk:y.kind=8:=congrArg En.kind hy
 have HIF:=hid hxi
 have HXK:=hid hxk
 have HYK:=hid hyk
 have HMR:Hid (mayRO [x,y]=true):=hid (by rw [mayRO_is,hes];exact ex_may)
 have HPT:Hid (printO true ([x,y].map Ex.en)=exT):=hid (by rw [hes];exact ex_print)
 have HD:=hid hd
 have HAT:=hid hat
 have HB1:=hid hb1
 have HB2:Hid (Below w1.heap.size w1 (w1.alloc (.cells #[.bool true,.slice (some ⟨b,off,none⟩) 2 cap] 25))):=hid ((Below.refl _ _).alloc (Nat.le_refl _) _)
 have HBX:Hid ((w1.alloc (.cells #[.bool true,.slice (some ⟨b,off,none⟩) 2 cap] 25)).heap[w1.heap.size]? = some (.cells #[.bool true,.slice (some ⟨b,off,none⟩) 2 cap] 25 (0,0))):=hid (heap_alloc_new w1 _)
 have HPR:Hid (∀W,Below w1.heap.size w1 W→Calls Tryz.prog 10 #[.agg #[.bool true,.slice (some ⟨b,off,none⟩) 2 cap]] W fun e w'=>e=.returned (.tuple #[.string exT,.int .i64 0])∧Below W.heap.size W w'):=hid fun W hW=>by
  have h:=opPrint_any true (.slice (some ⟨b,off,none⟩) 2 cap) [x,y] W (HD.out.on hW) (HV.out.on (HB1.out.trans (hW.mono HB1.out.size)))
  rw [HMR.out,if_pos rfl,if_pos rfl,HPT.out] at h
  exact h
 have HMY:Hid (∀W,Below w1.heap.size w1 W→Calls Tryz.prog 12 #[.agg #[.bool true,.slice (some ⟨b,off,none⟩) 2 cap]] W fun e w'=>e=.returned (.bool true)∧Below W.heap.size W w'):=hid fun W hW=>by
  have h:=opMay_any true (.slice (some ⟨b,off,none⟩) 2 cap) [x,y] W (HD.out.on hW)
  rw [HMR.out] at h
  exact h
 have HEQ:Hid (∀W,Below w1.heap.size w1 W→Calls Tryz.prog 13 #[.agg #[.bool true,.slice (some ⟨b,off,none⟩) 2 cap],.agg #[.bool true,.slice (some ⟨b,off,none⟩) 2 cap]] W fun e w'=>e=.returned (.bool true)∧Below W.heap.size W w'):=hid fun W hW=>by
  have h:=opEqual_any true true (.slice (some ⟨b,off,none⟩) 2 cap) (.slice (some ⟨b,off,none⟩) 2 cap) [x,y] [x,y] W (HD.out.on hW) (HD.out.on hW)
  rw [decide_eq_true (⟨rfl,rfl⟩:true=true∧[x,y].map Ex.en=[x,y].map Ex.en)] at h
  exact h
 have HW1:Hid (∀W,Calls Tryz.prog 14 #[.agg #[.int .i64 x.kind,.string x.temp,.string x.ka,.string x.kb,.int .i64 x.iff,.slice x.vp x.vo.length x.vc,.slice x.ep x.eo.length x.ec,.slice x.pp x.po.length x.pc,.int .u64 x.stamp,.int .i64 x.num]] W fun e w'=>e=.returned (.bool true)∧Below W.heap.size W w'):=hid fun W=>by
  have h:=opWrites_any x W
  rw [HXK.out] at h
  exact h
 have HW2:Hid (∀W,Calls Tryz.prog 14 #[.agg #[.int .i64 y.kind,.string y.temp,.string y.ka,.string y.kb,.int .i64 y.iff,.slice y.vp y.vo.length y.vc,.slice y.ep y.eo.length y.ec,.slice y.pp y.po.length y.pc,.int .u64 y.stamp,.int .i64 y.num]] W fun e w'=>e=.returned (.bool false)∧Below W.heap.size W w'):=hid fun W=>by
  have h:=opWrites_any y W
  rw [HYK.out] at h
  exact h
 have HCX:Hid (∀W,Below w1.heap.size w1 W→W.cell? ⟨b,off+0,none⟩=some (.int .i64 x.kind)∧W.cell? ⟨b,off+1,none⟩=some (.string x.temp)∧W.cell? ⟨b,off+2,none⟩=some (.string x.ka)∧W.cell? ⟨b,off+3,none⟩=some (.string x.kb)∧W.cell? ⟨b,off+4,none⟩=some (.int .i64 x.iff)∧W.cell? ⟨b,off+5,none⟩=some (.slice x.vp x.vo.length x.vc)∧W.cell? ⟨b,off+6,none⟩=some (.slice x.ep x.eo.length x.ec)∧W.cell? ⟨b,off+7,none⟩=some (.slice x.pp x.po.length x.pc)∧W.cell? ⟨b,off+8,none⟩=some (.int .u64 x.stamp)∧W.cell? ⟨b,off+9,none⟩=some (.int .i64 x.num)):=hid fun W hW=>by
  have h:=row_cellsQ (Kind.at_kept HAT.out hW) 0 x rfl
  simpa using h
 have HCY:Hid (∀W,Below w1.heap.size w1 W→W.cell? ⟨b,off+10+0,none⟩=some (.int .i64 y.kind)∧W.cell? ⟨b,off+10+1,none⟩=some (.string y.temp)∧W.cell? ⟨b,off+10+2,none⟩=some (.string y.ka)∧W.cell? ⟨b,off+10+3,none⟩=some (.string y.kb)∧W.cell? ⟨b,off+10+4,none⟩=some (.int .i64 y.iff)∧W.cell? ⟨b,off+10+5,none⟩=some (.slice y.vp y.vo.length y.vc)∧W.cell? ⟨b,off+10+6,none⟩=some (.slice y.ep y.eo.length y.ec)∧W.cell? ⟨b,off+10+7,none⟩=some (.slice y.pp y.po.length y.pc)∧W.cell? ⟨b,off+10+8,none⟩=some (.int .u64 y.stamp)∧W.cell? ⟨b,off+10+9,none⟩=some (.int .i64 y.num)):=hid fun W hW=>by
  have h:=row_cellsQ (Kind.at_kept HAT.out hW) 1 y rfl
  simpa using h
 clear hd hes hrow hat hx hy hxi hxk hyk hb1
 go_wp2_with fail
 refine (HPR.out _ HB2.out).mono ?_
 rintro e w2 ⟨rfl,hb2⟩
 have HB3:=hid (HB2.out.trans (hb2.mono HB2.out.size))
 have HX2:=hid ((hb2.block _ (by simp)).trans HBX.out)
 clear hb2
 go_wp2_with fail
 refine (HP0.out w2 (HB1.out.trans (HB3.out.mono HB1.out.size))).mono ?_
 rintro e w3 ⟨o0,pv,nv,cv,rfl,hb3⟩
 have hlt2:w1.heap.size<w2.heap.size:=(Array.getElem?_eq_some_iff.1 HX2.out).1
 have hal3:=(Below.refl w3.heap.size w3).alloc (Nat.le_refl _) (.cells #[.bool o0,.slice pv nv cv] 25)
 have HB4:Hid (Below w1.heap.size w1 (w3.alloc (.cells #[.bool o0,.slice pv nv cv] 25))):=hid ((HB3.out.trans (hb3.mono HB3.out.size)).trans (hal3.mono (HB3.out.trans (hb3.mono HB3.out.size)).size))
 have HX3:Hid ((w3.alloc (.cells #[.bool o0,.slice pv nv cv] 25)).heap[w1.heap.size]? = some (.cells #[.bool true,.slice (some ⟨b,off,none⟩) 2 cap] 25 (0,0))):=hid ((hal3.block _ (Nat.lt_of_lt_of_le hlt2 hb3.size)).trans ((hb3.block _ hlt2).trans HX2.out))
 clear hb3 hal3
 obtain ⟨WA,hWA⟩:∃WA,w3.alloc (.cells #[.bool o0,.slice pv nv cv] 25)=WA:=⟨_,rfl⟩
 rw [hWA] at HB4 HX3
 have HWA:=hid hWA
 obtain ⟨q0,q1,_,_⟩:=two_facts HX3.out
 obtain ⟨p0,p1,p2,p3,p4,p5,p6,p7,p8,p9⟩:=HCX.out WA HB4.out
 have p4':=p4
 rw [HIF.out] at p4'
 clear p4
 have hTq:(exT.toList==[111,110,99,101,32,117,112,100,97,116,101,32,80,97,116,105,101,110,116,47,112,49,32,105,102,32,50,32,110,97,109,101,61,66,111,32,59,32,115,101,97,114,99,104,32,80,97,116,105,101,110,116,32,110,97,109,101,94,65])=true:=by rw [toList_data];decide
 go_upto_region 4 with fail
 try rw [hWA]
 go_wp2_with fail
 refine (HMY.out WA HB4.out).mono ?_
 rintro e w5 ⟨rfl,hb5⟩
 have HB5:=hid (HB4.out.trans (hb5.mono HB4.out.size))
 have HX5:=hid ((hb5.block _ (Array.getElem?_eq_some_iff.1 HX3.out).1).trans HX3.out)
 clear hb5
 obtain ⟨r50,r51,_,_⟩:=two_facts HX5.out
 go_wp2_with fail
 refine (HM0.out w5).mono ?_
 rintro e w6 ⟨rfl,hb6⟩
 have HB6:=hid (HB5.out.trans (hb6.mono HB5.out.size))
 have HX6:=hid ((hb6.block _ (Array.getElem?_eq_some_iff.1 HX5.out).1).trans HX5.out)
 clear hb6
 obtain ⟨r60,r61,_,_⟩:=two_facts HX6.out
 go_wp2_with fail
 refine (HEQ.out w6 HB6.out).mono ?_
 rintro e w7 ⟨rfl,hb7⟩
 have HB7:=hid (HB6.out.trans (hb7.mono HB6.out.size))
 have HX7:=hid ((hb7.block _ (Array.getElem?_eq_some_iff.1 HX6.out).1).trans HX6.out)
 clear hb7
 obtain ⟨r70,r71,_,_⟩:=two_facts HX7.out
 obtain ⟨s0,s1,s2,s3,s4,s5,s6,s7,s8,s9⟩:=HCX.out w7 HB7.out
 simp only [Nat.add_zero] at s0
 go_wp2_with fail
 refine (HW1.out w7).mono ?_
 rintro e w8 ⟨rfl,hb8⟩
 have HB8:=hid (HB7.out.trans (hb8.mono HB7.out.size))
 have HX8:=hid ((hb8.block _ (Array.getElem?_eq_some_iff.1 HX7.out).1).trans HX7.out)
 clear hb8
 obtain ⟨r80,r81,_,_⟩:=two_facts HX8.out
 obtain ⟨t0,t1,t2,t3,t4,t5,t6,t7,t8,t9⟩:=HCY.out w8 HB8.out
 try simp only [Nat.add_zero] at t0
 go_wp2_with fail
 refine (HW2.out w8).mono ?_
 rintro e w9 ⟨rfl,hb9⟩
 have HB9:=hid (HB8.out.trans (hb9.mono HB8.out.size))
 clear hb9
 go_wp2_with fail
 go_ret
 exact ⟨rfl,HB1.out.trans (HB9.out.mono HB1.out.size)⟩
end
end Go.Proofs.YtjeogllmpjihaaaGreatDoor
