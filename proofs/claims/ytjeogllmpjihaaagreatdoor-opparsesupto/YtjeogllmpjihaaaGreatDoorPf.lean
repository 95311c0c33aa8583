/-
  Texts of this claim, one behind the other: Re7 Hp9 Kba Oqb Oqr Sh5 Oqp Oqe.
-/
import Derived.Test.YtjeogllmpjihaaaGreatDoorPe
import Derived.Lib.SplitLaws
namespace Go.Proofs.YtjeogllmpjihaaaGreatDoor
section
open Go.RowKit Go.Lib
def fitEd (x:Ed):Prop:=x.2.1.size≤1000000000000∧x.2.2.size≤1000000000000∧0≤x.1∧x.1≤5
def EWPost (w:World) (o:Option (List Ed)) (e:Ending) (w':World):Prop :=
 (∃u,e=.returned (.tuple #[u,.int .i64 (codeL o)])∧KE.Own w.heap.size w' u (ansL o))∧Below w.heap.size w w'
def EWSt (w:World) (ls:List (List UInt8)) (i:Nat) (v:Value) (wr:World):Prop :=
 ∃d,KE.Own w.heap.size wr v d∧editsW (ls.take i)=some d∧d.length=i∧(∀x∈d,fitEd x)∧Below w.heap.size w wr
theorem ew_no {w w':World} {o:Option (List Ed)} {e:Ending} (ho:o=none) (he:e=.returned (.tuple #[.slice none 0 0,.int .i64 4])) (hb:Below w.heap.size w w'):EWPost w o e w':=by
 subst ho
 exact ⟨⟨_,he,KE.own_nil _ _⟩,hb⟩
theorem ew_of {w w':World} {o:Option (List Ed)} {d:List Ed} {u:Value} {e:Ending} (ho:o=some d) (he:e=.returned (.tuple #[u,.int .i64 (mayE d)])) (hw:KE.Own w.heap.size w' u (if mayE d=0 then d else [])) (hb:Below w.heap.size w w'):EWPost w o e w':=by
 subst ho
 exact ⟨⟨_,he,hw⟩,hb⟩
set_option maxHeartbeats 16000000 in
set_option maxRecDepth 100000 in
theorem rpwE_any (p:Option Addr) (cap:Nat) (ws:List ByteArray) (w:World) (ht:TxtAt w p ws) (hl:ws.length≤1000000000000) (hs:∀x∈ws,x.size≤1000000000000) :
  Calls Tryz.prog 81 #[.slice p ws.length cap] w fun e w'=>EWPost w (editsW (ws.map (·.data.toList))) e w':=by
 obtain ⟨j0,hj0,hy0,hy1,hy2⟩:=info_parts Tryz.infoEd
 have mixed:=Tryz.mixed
 have HJ:=hid hj0
 have HT:=hid ht
 have HS:=hid hs
 clear hj0 ht hs
 have ST0:Hid (EWSt w (ws.map (·.data.toList)) 0 (.slice none 0 0) w):=⟨[],KE.own_nil _ _,by simp [editsW],rfl,fun x hx=>by simp at hx,Below.refl _ _⟩
 go_enter Tryz.func81,Tryz.ntmps81
 go_wp2_with fail
 go_loopg [4,5] ws.length (fun g vv vi wr=>∃i:Nat,vi=.int .i64 i∧i≤ws.length∧ws.length-i≤g∧EWSt w (ws.map (·.data.toList)) i vv wr)
 case atStart=>exact ⟨0,rfl,by omega,by omega,ST0.out⟩
 case round =>
 clear ST0
 obtain ⟨i,rfl,hi,hgk,d,hox,hfw,hdl,hft,hb⟩:=hrel
 have HOX:=hid hox
 have HFW:=hid hfw
 have HDL:=hid hdl
 have HFT:=hid hft
 have HB:=hid hb
 have hsz:=hb.size
 clear hox hfw hdl hft
 by_cases hlt:i<ws.length
 ·have hltz:(i:Int)<(ws.length:Int):=by omega
  have hiz:(0:Int)≤(i:Int):=by omega
  rcases HT.out with hn|⟨b,off,rfl,hc⟩
  ·rw [hn] at hlt;simp at hlt
  have c0:wr.cell? ⟨b,off+i,none⟩=some (.string ws[i]):=(hb.cell (p:=⟨b,off+i,none⟩) (cell_block (hc i hlt))).trans (hc i hlt)
  have hts:=HS.out _ (List.getElem_mem hlt)
  have hsplit:ws.map (·.data.toList)=(ws.map (·.data.toList)).take i++(ws[i]).data.toList::(ws.map (·.data.toList)).drop (i+1):=by
   have h1:i<(ws.map (·.data.toList)).length:=by simpa using hlt
   have h2:(ws.map (·.data.toList))[i]=(ws[i]).data.toList:=by simp
   rw [←h2,←List.drop_eq_getElem_cons h1,List.take_append_drop]
  have htk:(ws.map (·.data.toList)).take (i+1)=(ws.map (·.data.toList)).take i++[(ws[i]).data.toList]:=by
   rw [List.take_succ_eq_append_getElem (by simpa using hlt)];simp
  obtain ⟨x,hx⟩:∃x,ws[i]=x:=⟨_,rfl⟩
  rw [hx] at c0 hts hsplit htk
  have HSPL:=hid hsplit
  have HTK:=hid htk
  have hxl:x.data.toList.length=x.size:=by simp
  have HXL:=hid hxl
  have HNO:Hid (editO x.data.toList=none→editsW (ws.map (·.data.toList))=none):=fun h=>by rw [HSPL.out];exact editsW_no h
  clear hx hsplit htk hc hb hxl HSPL
  go_wp2_with fail
  go_loopg [7] x.size (fun g vk ws=>∃k:Nat,vk=.int .i64 k∧k≤x.size∧x.size-k≤g∧wr=ws∧Hid (∀d∈x.data.toList.take k,isK d=false))
  case atStart=>exact ⟨0,rfl,by omega,by omega,rfl,(show Hid _ from by simp [Hid])⟩
  case round =>
  obtain ⟨A,rfl,hA,hgA,rfl,HNA⟩:=hrel
  by_cases hAl:A<x.size
  ·have hAz:(A:Int)<(x.size:Int):=by omega
   have hAd:decide ((A:Int)<(x.size:Int))=true:=decide_eq_true hAz
   have hA0:(0:Int)≤(A:Int):=by omega
   have hAll:A<x.data.toList.length:=by rw [HXL.out];exact hAl
   have hby:x.data.toList[A]=x[A]:=rfl
   have HED:Hid (isK x[A]=true→editO x.data.toList=if okW x A (kindN (x[A].toNat:Int)) then (match readL (x.data.toList.drop (A+(signS (kindN (x[A].toNat:Int))).size)) with
     | none=>none
     | some t=>some (kindN (x[A].toNat:Int),⟨(x.data.toList.take A).toArray⟩,⟨t.toArray⟩)) else none):=fun h=>edit_at hAl HNA.out h
   obtain ⟨c,hc⟩:∃c,x[A]=c:=⟨_,rfl⟩
   rw [hc] at hby HED
   have HBY:=hid hby
   clear hby
   have hor:=kindN_range (c.toNat:Int)
   have HIS:Hid (isK c=(kindN (c.toNat:Int) != 0)):=rfl
   have HOC:Hid (∀W,Calls Tryz.prog 124 #[.int .u8 (c.toNat:Int)] W fun e w'=>e=.returned (.int .i64 (kindN (c.toNat:Int)))∧W=w'):=fun W=>rkind_any (c.toNat:Int) W
   obtain ⟨o,ho⟩:∃o,kindN (c.toNat:Int)=o:=⟨_,rfl⟩
   rw [ho] at HIS HOC hor HED
   clear ho
   obtain ⟨ho0,ho5⟩:=hor
   by_cases hz:o=0
   ·have HN2:Hid (∀d∈x.data.toList.take (A+1),isK d=false):=by
     intro d hd
     rw [List.take_succ_eq_append_getElem hAll,List.mem_append,List.mem_singleton,HBY.out] at hd
     rcases hd with h|h
     ·exact HNA.out d h
     ·rw [h,HIS.out,hz];rfl
    clear HED HIS
    subst hz
    go_wp2_with (first|(go_at_call 124;refine (HOC.out _).mono ?_;rintro e w2 ⟨rfl,rfl⟩))
    go_roundg (x.size-(A+1))
    case measure=>omega
    case rel=>exact ⟨A+1,by go_num,by omega,by omega,rfl,HN2⟩
   ·have HE2:=hid (HED.out (by rw [HIS.out,bne_iff_ne];exact hz))
    have hzb:(o==0)=false:=beq_eq_false_iff_ne.2 hz
    have hne:((A:Int)==(x.size:Int))=false:=beq_eq_false_iff_ne.2 (by omega)
    have HG:Hid (∀W,Calls Tryz.prog 96 #[.int .i64 o] W fun e w'=>e=.returned (.string (signS o))∧W=w'):=fun W=>(rsign_any o W).mono fun e w' h=>⟨h.1,h.2.symm⟩
    have hsg:=sign_size o
    have HKW:Hid (okW x A o=(decide ((signS o).size≤x.size-A)&&decide (x.extract A (A+(signS o).size)=signS o)&&(decide (o≠4)||decide (x.size-A≤1)))):=rfl
    obtain ⟨sg,hsg2⟩:∃sg,signS o=sg:=⟨_,rfl⟩
    rw [hsg2] at hsg HG HE2 HKW
    obtain ⟨hsg1,hsg0⟩:=hsg
    obtain ⟨OK,hOK⟩:∃OK,okW x A o=OK:=⟨_,rfl⟩
    rw [hOK] at HE2 HKW
    obtain ⟨en,hen⟩:∃en,A+sg.size=en:=⟨_,rfl⟩
    rw [hen] at HE2 HKW
    obtain ⟨m,hm⟩:∃m,x.size-A=m:=⟨_,rfl⟩
    rw [hm] at HKW
    have HEN:=hid hen
    have HM:=hid hm
    have HW1:Hid (IntKind.i64.wrap ((x.size:Int)-(A:Int))=(m:Int)):=by show _=_;rw [show (x.size:Int)-(A:Int)=(m:Int) by omega];exact wrap_i64E _ (by omega) (by omega)
    have HW2:Hid (IntKind.i64.wrap ((A:Int)+(sg.size:Int))=(en:Int)):=by show _=_;rw [show (A:Int)+(sg.size:Int)=(en:Int) by omega];exact wrap_i64E _ (by omega) (by omega)
    have HW3:Hid ((A:Int)+(sg.size:Int)=(en:Int)):=by show _=_;omega
    have hen0:(0:Int)≤(en:Int):=by omega
    have hAen:(A:Int)≤(en:Int):=by omega
    clear HED HIS hz hOK hsg2 hen hm
    go_upto_region 13 with (first|(go_at_call 124;refine (HOC.out _).mono ?_;rintro e w2 ⟨rfl,rfl⟩)|(go_at_call 96;refine (HG.out _).mono ?_;rintro e w2 ⟨rfl,rfl⟩))
    go_cut [74] from 13 to 94 (fun v wx=>v=.bool (!OK)∧∃n,wx=wr.drewN n)
    case first =>
     by_cases g1:sg.size≤m
     ·have dm:decide ((m:Int)<(sg.size:Int))=false:=decide_eq_false (by omega)
      have gn:¬ m<sg.size:=by omega
      have henx:(en:Int)≤(x.size:Int):=by have:=HEN.out;have:=HM.out;omega
      rw [decide_eq_true g1,Bool.true_and] at HKW
      by_cases g2:x.extract A en=sg
      ·have hse:=seq_true g2
       rw [decide_eq_true g2,Bool.true_and] at HKW
       by_cases g3:o=4
       ·have hk4:(o==4)=true:=beq_iff_eq.2 g3
        by_cases g4:m≤1
        ·have dm1:decide ((1:Int)<(m:Int))=false:=decide_eq_false (by omega)
         have gm:¬ 1<m:=by omega
         have hOK:OK=true:=by rw [HKW.out,decide_eq_true g4,Bool.or_true]
         subst hOK
         clear g1 g2 g3 g4 HKW
         have hw1:=HW1.out
         have hw2:=HW2.out
         go_wp2_with fail
         refine wp_region_held_drew (S:=fun _=>True) (by kernel_rfl) trivial (fun hHeld=>?_)
         refine tkv 0 (.string x) hHeld ?_
         simp only [Act.put,sz]
         refine tkv 1 (.int .i64 x.size) hHeld ?_
         simp only [Act.put,sz]
         refine tkv 2 (.int .i64 A) hHeld ?_
         simp only [Act.put,sz]
         refine tkv 3 (.int .i64 m) hHeld ?_
         simp only [Act.put,sz]
         refine tkv 4 (.int .i64 sg.size) hHeld ?_
         simp only [Act.put,sz]
         refine tkv 5 (.bool false) hHeld ?_
         simp only [Act.put,sz]
         refine tkv 6 (.bool false) hHeld ?_
         simp only [Act.put,sz]
         refine tkv 7 (.string x) hHeld ?_
         simp only [Act.put,sz]
         refine tkv 8 (.int .i64 A) hHeld ?_
         simp only [Act.put,sz]
         refine tkv 9 (.int .i64 A) hHeld ?_
         simp only [Act.put,sz]
         refine tkv 10 (.int .i64 sg.size) hHeld ?_
         simp only [Act.put,sz]
         refine tkv 11 (.int .i64 en) hHeld ?_
         simp only [Act.put,sz]
         refine tkv 12 (.string (x.extract A en)) hHeld ?_
         simp only [Act.put,sz]
         refine tkv 13 (.int .i64 o) hHeld ?_
         simp only [Act.put,sz]
         refine wpAnyH_ready (rs:=[14]) (by kernel_rfl) (by simp) ?_
         refine AllReadyH.cons (at_drop0 rfl) (fun K hK=>?_) AllReadyH.nil
         rw [if_pos (by rfl)]
         go_simp
         refine (HG.out _).mono ?_
         rintro e w2 ⟨rfl,rfl⟩
         go_wp2_with fail
         refine hK.out _ _ trivial (fun hHeld=>?_)
         clear hK K
         try simp only [Act.put,sz]
         refine tkv 15 (.bool false) hHeld ?_
         simp only [Act.put,sz]
         refine tkv 16 (.bool false) hHeld ?_
         simp only [Act.put,sz]
         refine tkv 17 (.bool false) hHeld ?_
         simp only [Act.put,sz]
         refine tkv 18 (.int .i64 o) hHeld ?_
         simp only [Act.put,sz]
         refine tkv 19 (.bool true) hHeld ?_
         simp only [Act.put,sz]
         refine tkv 20 (.bool true) hHeld ?_
         simp only [Act.put,sz]
         refine tkv 21 (.string x) hHeld ?_
         simp only [Act.put,sz]
         refine tkv 22 (.int .i64 x.size) hHeld ?_
         simp only [Act.put,sz]
         refine tkv 23 (.int .i64 A) hHeld ?_
         simp only [Act.put,sz]
         refine tkv 24 (.int .i64 m) hHeld ?_
         simp only [Act.put,sz]
         refine tkv 25 (.bool false) hHeld ?_
         simp only [Act.put,sz]
         refine tkv 26 (.bool false) hHeld ?_
         simp only [Act.put,sz]
         refine tkv 27 (.bool false) hHeld ?_
         simp only [Act.put,sz]
         refine wpAnyH_done (by kernel_rfl) ?_ _
         go_wp2_with fail
         go_meet
         case rel=>exact ⟨rfl,1,rfl⟩
        ·have dm1:decide ((1:Int)<(m:Int))=true:=decide_eq_true (by omega)
         have gm:1<m:=by omega
         have hOK:OK=false:=by rw [HKW.out,decide_eq_false g4,decide_eq_false (by simp [g3])];rfl
         subst hOK
         clear g1 g2 g3 g4 HKW
         have hw1:=HW1.out
         have hw2:=HW2.out
         go_wp2_with fail
         refine wp_region_held_drew (S:=fun _=>True) (by kernel_rfl) trivial (fun hHeld=>?_)
         refine tkv 0 (.string x) hHeld ?_
         simp only [Act.put,sz]
         refine tkv 1 (.int .i64 x.size) hHeld ?_
         simp only [Act.put,sz]
         refine tkv 2 (.int .i64 A) hHeld ?_
         simp only [Act.put,sz]
         refine tkv 3 (.int .i64 m) hHeld ?_
         simp only [Act.put,sz]
         refine tkv 4 (.int .i64 sg.size) hHeld ?_
         simp only [Act.put,sz]
         refine tkv 5 (.bool false) hHeld ?_
         simp only [Act.put,sz]
         refine tkv 6 (.bool false) hHeld ?_
         simp only [Act.put,sz]
         refine tkv 7 (.string x) hHeld ?_
         simp only [Act.put,sz]
         refine tkv 8 (.int .i64 A) hHeld ?_
         simp only [Act.put,sz]
         refine tkv 9 (.int .i64 A) hHeld ?_
         simp only [Act.put,sz]
         refine tkv 10 (.int .i64 sg.size) hHeld ?_
         simp only [Act.put,sz]
         refine tkv 11 (.int .i64 en) hHeld ?_
         simp only [Act.put,sz]
         refine tkv 12 (.string (x.extract A en)) hHeld ?_
         simp only [Act.put,sz]
         refine tkv 13 (.int .i64 o) hHeld ?_
         simp only [Act.put,sz]
         refine wpAnyH_ready (rs:=[14]) (by kernel_rfl) (by simp) ?_
         refine AllReadyH.cons (at_drop0 rfl) (fun K hK=>?_) AllReadyH.nil
         rw [if_pos (by rfl)]
         go_simp
         refine (HG.out _).mono ?_
         rintro e w2 ⟨rfl,rfl⟩
         go_wp2_with fail
         refine hK.out _ _ trivial (fun hHeld=>?_)
         clear hK K
         try simp only [Act.put,sz]
         refine tkv 15 (.bool false) hHeld ?_
         simp only [Act.put,sz]
         refine tkv 16 (.bool false) hHeld ?_
         simp only [Act.put,sz]
         refine tkv 17 (.bool false) hHeld ?_
         simp only [Act.put,sz]
         refine tkv 18 (.int .i64 o) hHeld ?_
         simp only [Act.put,sz]
         refine tkv 19 (.bool true) hHeld ?_
         simp only [Act.put,sz]
         refine tkv 20 (.bool true) hHeld ?_
         simp only [Act.put,sz]
         refine tkv 21 (.string x) hHeld ?_
         simp only [Act.put,sz]
         refine tkv 22 (.int .i64 x.size) hHeld ?_
         simp only [Act.put,sz]
         refine tkv 23 (.int .i64 A) hHeld ?_
         simp only [Act.put,sz]
         refine tkv 24 (.int .i64 m) hHeld ?_
         simp only [Act.put,sz]
         refine tkv 25 (.bool true) hHeld ?_
         simp only [Act.put,sz]
         refine tkv 26 (.bool true) hHeld ?_
         simp only [Act.put,sz]
         refine tkv 27 (.bool true) hHeld ?_
         simp only [Act.put,sz]
         refine wpAnyH_done (by kernel_rfl) ?_ _
         go_wp2_with fail
         go_meet
         case rel=>exact ⟨rfl,1,rfl⟩
       ·have hk4:(o==4)=false:=beq_eq_false_iff_ne.2 g3
        have hOK:OK=true:=by rw [HKW.out,decide_eq_true g3,Bool.true_or]
        subst hOK
        clear g1 g2 g3 HKW
        have hw1:=HW1.out
        have hw2:=HW2.out
        go_wp2_with fail
        refine wp_region_held_drew (S:=fun _=>True) (by kernel_rfl) trivial (fun hHeld=>?_)
        refine tkv 0 (.string x) hHeld ?_
        simp only [Act.put,sz]
        refine tkv 1 (.int .i64 x.size) hHeld ?_
        simp only [Act.put,sz]
        refine tkv 2 (.int .i64 A) hHeld ?_
        simp only [Act.put,sz]
        refine tkv 3 (.int .i64 m) hHeld ?_
        simp only [Act.put,sz]
        refine tkv 4 (.int .i64 sg.size) hHeld ?_
        simp only [Act.put,sz]
        refine tkv 5 (.bool false) hHeld ?_
        simp only [Act.put,sz]
        refine tkv 6 (.bool false) hHeld ?_
        simp only [Act.put,sz]
        refine tkv 7 (.string x) hHeld ?_
        simp only [Act.put,sz]
        refine tkv 8 (.int .i64 A) hHeld ?_
        simp only [Act.put,sz]
        refine tkv 9 (.int .i64 A) hHeld ?_
        simp only [Act.put,sz]
        refine tkv 10 (.int .i64 sg.size) hHeld ?_
        simp only [Act.put,sz]
        refine tkv 11 (.int .i64 en) hHeld ?_
        simp only [Act.put,sz]
        refine tkv 12 (.string (x.extract A en)) hHeld ?_
        simp only [Act.put,sz]
        refine tkv 13 (.int .i64 o) hHeld ?_
        simp only [Act.put,sz]
        refine wpAnyH_ready (rs:=[14]) (by kernel_rfl) (by simp) ?_
        refine AllReadyH.cons (at_drop0 rfl) (fun K hK=>?_) AllReadyH.nil
        rw [if_pos (by rfl)]
        go_simp
        refine (HG.out _).mono ?_
        rintro e w2 ⟨rfl,rfl⟩
        go_wp2_with fail
        refine hK.out _ _ trivial (fun hHeld=>?_)
        clear hK K
        try simp only [Act.put,sz]
        refine tkv 15 (.bool false) hHeld ?_
        simp only [Act.put,sz]
        refine tkv 16 (.bool false) hHeld ?_
        simp only [Act.put,sz]
        refine tkv 17 (.bool false) hHeld ?_
        simp only [Act.put,sz]
        refine tkv 18 (.int .i64 o) hHeld ?_
        simp only [Act.put,sz]
        refine tkv 19 (.bool false) hHeld ?_
        simp only [Act.put,sz]
        refine tkv 20 (.bool false) hHeld ?_
        simp only [Act.put,sz]
        refine take_not (i:=21) rfl (by kernel_rfl) (by kernel_rfl) (by kernel_rfl) (fun _ _ _ h=>h) (by rfl) hHeld ?_
        simp only [Act.put,sz]
        refine take_not (i:=22) rfl (by kernel_rfl) (by kernel_rfl) (by kernel_rfl) (fun _ _ _ h=>h) (by rfl) hHeld ?_
        simp only [Act.put,sz]
        refine take_not (i:=23) rfl (by kernel_rfl) (by kernel_rfl) (by kernel_rfl) (fun _ _ _ h=>h) (by rfl) hHeld ?_
        simp only [Act.put,sz]
        refine take_not (i:=24) rfl (by kernel_rfl) (by kernel_rfl) (by kernel_rfl) (fun _ _ _ h=>h) (by rfl) hHeld ?_
        simp only [Act.put,sz]
        refine take_not (i:=25) rfl (by kernel_rfl) (by kernel_rfl) (by kernel_rfl) (fun _ _ _ h=>h) (by rfl) hHeld ?_
        simp only [Act.put,sz]
        refine tkv 26 (.bool false) hHeld ?_
        simp only [Act.put,sz]
        refine tkv 27 (.bool false) hHeld ?_
        simp only [Act.put,sz]
        refine wpAnyH_done (by kernel_rfl) ?_ _
        go_wp2_with fail
        go_meet
        case rel=>exact ⟨rfl,1,rfl⟩
      ·have hse:=seq_false g2
       have hOK:OK=false:=by rw [HKW.out,decide_eq_false g2,Bool.false_and]
       subst hOK
       clear g1 g2 HKW
       have hw1:=HW1.out
       have hw2:=HW2.out
       go_wp2_with fail
       refine wp_region_held_drew (S:=fun _=>True) (by kernel_rfl) trivial (fun hHeld=>?_)
       refine tkv 0 (.string x) hHeld ?_
       simp only [Act.put,sz]
       refine tkv 1 (.int .i64 x.size) hHeld ?_
       simp only [Act.put,sz]
       refine tkv 2 (.int .i64 A) hHeld ?_
       simp only [Act.put,sz]
       refine tkv 3 (.int .i64 m) hHeld ?_
       simp only [Act.put,sz]
       refine tkv 4 (.int .i64 sg.size) hHeld ?_
       simp only [Act.put,sz]
       refine tkv 5 (.bool false) hHeld ?_
       simp only [Act.put,sz]
       refine tkv 6 (.bool false) hHeld ?_
       simp only [Act.put,sz]
       refine tkv 7 (.string x) hHeld ?_
       simp only [Act.put,sz]
       refine tkv 8 (.int .i64 A) hHeld ?_
       simp only [Act.put,sz]
       refine tkv 9 (.int .i64 A) hHeld ?_
       simp only [Act.put,sz]
       refine tkv 10 (.int .i64 sg.size) hHeld ?_
       simp only [Act.put,sz]
       refine tkv 11 (.int .i64 en) hHeld ?_
       simp only [Act.put,sz]
       refine tkv 12 (.string (x.extract A en)) hHeld ?_
       simp only [Act.put,sz]
       refine tkv 13 (.int .i64 o) hHeld ?_
       simp only [Act.put,sz]
       refine wpAnyH_ready (rs:=[14]) (by kernel_rfl) (by simp) ?_
       refine AllReadyH.cons (at_drop0 rfl) (fun K hK=>?_) AllReadyH.nil
       rw [if_pos (by rfl)]
       go_simp
       refine (HG.out _).mono ?_
       rintro e w2 ⟨rfl,rfl⟩
       go_wp2_with fail
       refine hK.out _ _ trivial (fun hHeld=>?_)
       clear hK K
       try simp only [Act.put,sz]
       refine tkv 15 (.bool true) hHeld ?_
       simp only [Act.put,sz]
       refine tkv 16 (.bool true) hHeld ?_
       simp only [Act.put,sz]
       refine tkv 17 (.bool true) hHeld ?_
       simp only [Act.put,sz]
       refine take_not (i:=18) rfl (by kernel_rfl) (by kernel_rfl) (by kernel_rfl) (fun _ _ _ h=>h) (by rfl) hHeld ?_
       simp only [Act.put,sz]
       refine take_not (i:=19) rfl (by kernel_rfl) (by kernel_rfl) (by kernel_rfl) (fun _ _ _ h=>h) (by rfl) hHeld ?_
       simp only [Act.put,sz]
       refine take_not (i:=20) rfl (by kernel_rfl) (by kernel_rfl) (by kernel_rfl) (fun _ _ _ h=>h) (by rfl) hHeld ?_
       simp only [Act.put,sz]
       refine take_not (i:=21) rfl (by kernel_rfl) (by kernel_rfl) (by kernel_rfl) (fun _ _ _ h=>h) (by rfl) hHeld ?_
       simp only [Act.put,sz]
       refine take_not (i:=22) rfl (by kernel_rfl) (by kernel_rfl) (by kernel_rfl) (fun _ _ _ h=>h) (by rfl) hHeld ?_
       simp only [Act.put,sz]
       refine take_not (i:=23) rfl (by kernel_rfl) (by kernel_rfl) (by kernel_rfl) (fun _ _ _ h=>h) (by rfl) hHeld ?_
       simp only [Act.put,sz]
       refine take_not (i:=24) rfl (by kernel_rfl) (by kernel_rfl) (by kernel_rfl) (fun _ _ _ h=>h) (by rfl) hHeld ?_
       simp only [Act.put,sz]
       refine take_not (i:=25) rfl (by kernel_rfl) (by kernel_rfl) (by kernel_rfl) (fun _ _ _ h=>h) (by rfl) hHeld ?_
       simp only [Act.put,sz]
       refine take_not (i:=26) rfl (by kernel_rfl) (by kernel_rfl) (by kernel_rfl) (fun _ _ _ h=>h) (by rfl) hHeld ?_
       simp only [Act.put,sz]
       refine tkv 27 (.bool true) hHeld ?_
       simp only [Act.put,sz]
       refine wpAnyH_done (by kernel_rfl) ?_ _
       go_wp2_with fail
       go_meet
       case rel=>exact ⟨rfl,1,rfl⟩
     ·have dm:decide ((m:Int)<(sg.size:Int))=true:=decide_eq_true (by omega)
      have gn:m<sg.size:=by omega
      have hOK:OK=false:=by rw [HKW.out,decide_eq_false g1,Bool.false_and,Bool.false_and]
      subst hOK
      clear g1 HKW
      have hw1:=HW1.out
      have hw2:=HW2.out
      go_wp2_with fail
      refine wp_region_held_drew (S:=fun _=>True) (by kernel_rfl) trivial (fun hHeld=>?_)
      refine tkv 0 (.string x) hHeld ?_
      simp only [Act.put,sz]
      refine tkv 1 (.int .i64 x.size) hHeld ?_
      simp only [Act.put,sz]
      refine tkv 2 (.int .i64 A) hHeld ?_
      simp only [Act.put,sz]
      refine tkv 3 (.int .i64 m) hHeld ?_
      simp only [Act.put,sz]
      refine tkv 4 (.int .i64 sg.size) hHeld ?_
      simp only [Act.put,sz]
      refine tkv 5 (.bool true) hHeld ?_
      simp only [Act.put,sz]
      refine tkv 6 (.bool true) hHeld ?_
      simp only [Act.put,sz]
      refine take_not (i:=7) rfl (by kernel_rfl) (by kernel_rfl) (by kernel_rfl) (fun _ _ _ h=>h) (by rfl) hHeld ?_
      simp only [Act.put,sz]
      refine take_not (i:=8) rfl (by kernel_rfl) (by kernel_rfl) (by kernel_rfl) (fun _ _ _ h=>h) (by rfl) hHeld ?_
      simp only [Act.put,sz]
      refine take_not (i:=9) rfl (by kernel_rfl) (by kernel_rfl) (by kernel_rfl) (fun _ _ _ h=>h) (by rfl) hHeld ?_
      simp only [Act.put,sz]
      refine take_not (i:=10) rfl (by kernel_rfl) (by kernel_rfl) (by kernel_rfl) (fun _ _ _ h=>h) (by rfl) hHeld ?_
      simp only [Act.put,sz]
      refine take_not (i:=11) rfl (by kernel_rfl) (by kernel_rfl) (by kernel_rfl) (fun _ _ _ h=>h) (by rfl) hHeld ?_
      simp only [Act.put,sz]
      refine take_not (i:=12) rfl (by kernel_rfl) (by kernel_rfl) (by kernel_rfl) (fun _ _ _ h=>h) (by rfl) hHeld ?_
      simp only [Act.put,sz]
      refine take_not (i:=13) rfl (by kernel_rfl) (by kernel_rfl) (by kernel_rfl) (fun _ _ _ h=>h) (by rfl) hHeld ?_
      simp only [Act.put,sz]
      refine take_not (i:=14) rfl (by kernel_rfl) (by kernel_rfl) (by kernel_rfl) (fun _ _ _ h=>h) (by rfl) hHeld ?_
      simp only [Act.put,sz]
      refine take_not (i:=15) rfl (by kernel_rfl) (by kernel_rfl) (by kernel_rfl) (fun _ _ _ h=>h) (by rfl) hHeld ?_
      simp only [Act.put,sz]
      refine tkv 16 (.bool true) hHeld ?_
      simp only [Act.put,sz]
      refine tkv 17 (.bool true) hHeld ?_
      simp only [Act.put,sz]
      refine take_not (i:=18) rfl (by kernel_rfl) (by kernel_rfl) (by kernel_rfl) (fun _ _ _ h=>h) (by rfl) hHeld ?_
      simp only [Act.put,sz]
      refine take_not (i:=19) rfl (by kernel_rfl) (by kernel_rfl) (by kernel_rfl) (fun _ _ _ h=>h) (by rfl) hHeld ?_
      simp only [Act.put,sz]
      refine take_not (i:=20) rfl (by kernel_rfl) (by kernel_rfl) (by kernel_rfl) (fun _ _ _ h=>h) (by rfl) hHeld ?_
      simp only [Act.put,sz]
      refine take_not (i:=21) rfl (by kernel_rfl) (by kernel_rfl) (by kernel_rfl) (fun _ _ _ h=>h) (by rfl) hHeld ?_
      simp only [Act.put,sz]
      refine take_not (i:=22) rfl (by kernel_rfl) (by kernel_rfl) (by kernel_rfl) (fun _ _ _ h=>h) (by rfl) hHeld ?_
      simp only [Act.put,sz]
      refine take_not (i:=23) rfl (by kernel_rfl) (by kernel_rfl) (by kernel_rfl) (fun _ _ _ h=>h) (by rfl) hHeld ?_
      simp only [Act.put,sz]
      refine take_not (i:=24) rfl (by kernel_rfl) (by kernel_rfl) (by kernel_rfl) (fun _ _ _ h=>h) (by rfl) hHeld ?_
      simp only [Act.put,sz]
      refine take_not (i:=25) rfl (by kernel_rfl) (by kernel_rfl) (by kernel_rfl) (fun _ _ _ h=>h) (by rfl) hHeld ?_
      simp only [Act.put,sz]
      refine take_not (i:=26) rfl (by kernel_rfl) (by kernel_rfl) (by kernel_rfl) (fun _ _ _ h=>h) (by rfl) hHeld ?_
      simp only [Act.put,sz]
      refine tkv 27 (.bool true) hHeld ?_
      simp only [Act.put,sz]
      refine wpAnyH_done (by kernel_rfl) ?_ _
      go_wp2_with fail
      go_meet
      case rel=>exact ⟨rfl,1,rfl⟩
    case rest =>
    obtain ⟨rfl,n1,rfl⟩:=hcut
    have HOX1:Hid (KE.Own w.heap.size (wr.drewN n1) u4 d):=HOX.out
    have HB1:=hid (bel_drewN HB.out n1)
    have hsz1:w.heap.size≤(wr.drewN n1).heap.size:=hsz
    obtain ⟨W1,hW1⟩:∃W1,wr.drewN n1=W1:=⟨_,rfl⟩
    rw [hW1] at HOX1 HB1 hsz1 ⊢
    clear hW1
    cases OK with
    | false =>
     have HO:Hid (editsW (ws.map (·.data.toList))=none):=HNO.out (by rw [HE2.out];rfl)
     go_wp2_with fail
     go_ret2
     exact ew_no HO.out rfl HB1.out
    | true =>
    have henx:(en:Int)≤(x.size:Int):=by
     have h1:=HKW.out.symm
     rw [Bool.and_eq_true,Bool.and_eq_true] at h1
     have h2:=of_decide_eq_true h1.1.1
     have:=HEN.out
     have:=HM.out
     omega
    have hrs:(x.extract en x.size).size≤140737488355327:=by simp;omega
    have HRR:=hid (fun W=>rread_any (x.extract en x.size) W hrs)
    rw [ext_tail] at HRR
    clear hrs HKW
    cases hrd:readL (x.data.toList.drop en) with
    | none =>
     have HO:Hid (editsW (ws.map (·.data.toList))=none):=HNO.out (by rw [HE2.out,hrd];rfl)
     simp only [hrd,readV] at HRR
     clear hrd HE2
     have hw3:=HW3.out
     go_wp2_with fail
     refine (HRR.out _).mono ?_
     rintro e w2 ⟨rfl,hb2⟩
     clear hw3
     go_wp2_with fail
     go_ret2
     exact ew_no HO.out rfl (bel_then HB1.out HB1.out.size hb2)
    | some t =>
     have htl:t.length≤x.size:=by
      have h1:=readL_len _ _ _ (Nat.le_refl _) hrd
      rw [List.length_drop,HXL.out] at h1
      omega
     simp only [hrd,readV] at HRR
     have HO:Hid (editO x.data.toList=some (o,x.extract 0 A,⟨t.toArray⟩)):=by
      show _=_
      rw [HE2.out,hrd,if_pos rfl,ext_take]
     have HF1:Hid (fitEd (o,x.extract 0 A,⟨t.toArray⟩)):=by
      refine ⟨?_,?_,ho0,ho5⟩
      ·simp;omega
      ·show t.toArray.size≤_
       rw [List.size_toArray];omega
     clear hrd HE2
     obtain ⟨nm,hnm⟩:∃nm,x.extract 0 A=nm:=⟨_,rfl⟩
     have HNM:=hid hnm
     rw [hnm] at HO HF1
     obtain ⟨tt,htt⟩:∃tt:ByteArray,⟨t.toArray⟩=tt:=⟨_,rfl⟩
     rw [htt] at HO HF1 HRR
     clear htt htl
     have hdl2:d.length≤1000000000000:=by rw [HDL.out];omega
     have hw3:=HW3.out
     go_wp2_with fail
     refine (HRR.out _).mono ?_
     rintro e w2 ⟨rfl,hb2⟩
     clear hw3
     have HO2:=hid (Kind.own_on HOX1.out hb2)
     have hB2:=bel_then HB1.out HB1.out.size hb2
     have HB2:=hid hB2
     have hszW:=hB2.size
     clear hb2 hB2
     go_wp2_with (first
      | (at_builtin;refine wpList_append_own _ rfl _ _ 38 rfl w.heap.size 47 j0 (.agg #[.int .i64 0,.string ⟨#[]⟩,.string ⟨#[]⟩]) 3 40 Tryz.underlying38 HJ.out hy0 hy1 hy2 rfl (by decide) _ _ _ rfl (World.ownsRow.alloc HO2.out _) ⟨w2.heap.size,0,none⟩ 1 1 (KE.cells [(o,nm,tt)]) rfl rfl (KE.news w2 (o,nm,tt)) (KE.cells_ones _) (by unfold maxLen;omega) (by omega) (by simp;omega) ?_;intro v4 w4 hown4 hg4 hnil4;have HO4:Hid (KE.Own w.heap.size w4 v4 (d++[(o,nm,tt)])):=Kind.own_snoc hown4 rfl rfl;have HB4:Hid (Below w.heap.size w w4):=(HB2.out.alloc hszW _).grown hg4 (by simp;omega) (fun k hk=>(World.ownsRow.lt HO2.out k hk).1);clear hown4 hg4 hnil4))
     go_roundg (ws.length-(i+1))
     case measure=>omega
     case rel =>
      refine ⟨i+1,by go_num,by omega,by omega,_,HO4.out,by rw [HTK.out];exact editsW_snoc HFW.out HO.out,by rw [List.length_append,HDL.out];rfl,fun y hy=>?_,HB4.out⟩
      rcases List.mem_append.1 hy with h|h
      ·exact HFT.out y h
      ·rw [List.mem_singleton.1 h];exact HF1.out
  ·have hAz:¬ (A:Int)<(x.size:Int):=by omega
   have hAd:decide ((A:Int)<(x.size:Int))=false:=decide_eq_false hAz
   have hAe:((A:Int)==(x.size:Int))=true:=beq_iff_eq.2 (by omega)
   have HO:Hid (editsW (ws.map (·.data.toList))=none):=by
    refine HNO.out ?_
    have h1:=HNA.out
    rw [List.take_of_length_le (by rw [HXL.out];omega)] at h1
    exact k_none h1
   go_wp2_with fail
   go_ret2
   exact ew_no HO.out rfl HB.out
 have hltz:¬ (i:Int)<(ws.length:Int):=by omega
 have hfw2:editsW (ws.map (·.data.toList))=some d:=by
  have h1:=HFW.out
  rw [List.take_of_length_le (by rw [List.length_map];omega)] at h1
  exact h1
 have hfit:FitE d:=⟨by rw [HDL.out];unfold maxLen;omega,fun x hx=>by
  obtain ⟨a,b,c,d⟩:=HFT.out x hx
  unfold maxLen
  exact ⟨by omega,by omega,by omega,by omega⟩⟩
 have HMM:Hid (Calls Tryz.prog 85 #[u4] wr fun e w'=>e=.returned (.int .i64 (mayE d))∧wr=w'):=(rmayE_any u4 d wr (Kind.own_is HOX.out) hfit).mono fun e w' h=>⟨h.1,h.2.symm⟩
 have HF2:=hid hfw2
 clear hfit hfw2
 by_cases hme:mayE d=0
 ·rw [hme] at HMM
  have HME:=hid hme
  clear hme
  go_wp2_with (first|(go_at_call 85;refine HMM.out.mono ?_;rintro e w2 ⟨rfl,rfl⟩))
  go_ret2
  exact ew_of HF2.out (by rw [HME.out];rfl) (by rw [if_pos HME.out];exact HOX.out) HB.out
 ·have hne:(mayE d != 0)=true:=by rw [bne_iff_ne];exact hme
  obtain ⟨r,hr⟩:∃r,mayE d=r:=⟨_,rfl⟩
  rw [hr] at hne HMM
  have HR:=hid hr
  have HME:=hid hme
  clear hme hr
  go_wp2_with (first|(go_at_call 85;refine HMM.out.mono ?_;rintro e w2 ⟨rfl,rfl⟩))
  go_ret2
  exact ew_of HF2.out (by rw [HR.out];rfl) (by rw [if_neg HME.out];exact KE.own_nil _ _) HB.out
end
section
open Go.RowKit
attribute [local go_sem] Oper.semAt_some
theorem editO_fit {l:List UInt8} {x:Ed} (h:editO l=some x):x.2.1.size≤l.length∧x.2.2.size≤l.length∧0≤x.1∧x.1≤5:=by
 unfold editO at h
 have ht:(l.takeWhile (fun c=>!isK c)).length≤l.length:=(List.takeWhile_sublist _).length_le
 cases hd:l.dropWhile (fun c=>!isK c) with
 | nil=>rw [hd] at h;cases h
 | cons c r =>
  rw [hd] at h
  simp only at h
  have hl:(l.dropWhile (fun c=>!isK c)).length≤l.length:=(List.dropWhile_sublist _).length_le
  rw [hd,List.length_cons] at hl
  have hk:=kindN_range (c.toNat:Int)
  by_cases h4:kindN (c.toNat:Int)=4
  ·rw [if_pos h4] at h
   split at h
   ·cases h
    refine ⟨?_,Nat.zero_le _,(show (0:Int)≤4 by decide),(show (4:Int)≤5 by decide)⟩
    show (l.takeWhile _).toArray.size≤_
    rw [List.size_toArray]
    exact ht
   ·cases h
  ·rw [if_neg h4] at h
   cases r with
   | nil=>cases h
   | cons d r2 =>
    simp only at h
    split at h
    ·cases hr:readL r2 with
     | none=>rw [hr] at h;cases h
     | some t =>
      rw [hr] at h
      cases h
      have h1:=readL_len _ _ _ (Nat.le_refl _) hr
      rw [List.length_cons] at hl
      refine ⟨?_,?_,hk.1,hk.2⟩
      ·show (l.takeWhile _).toArray.size≤_
       rw [List.size_toArray]
       exact ht
      ·show t.toArray.size≤_
       rw [List.size_toArray]
       omega
    ·cases h
theorem editsW_fit {B:Nat} (ls:List (List UInt8)) (hB:∀l∈ls,l.length≤B):∀d,editsW ls=some d→d.length=ls.length∧∀x∈d,x.2.1.size≤B∧x.2.2.size≤B∧0≤x.1∧x.1≤5:=by
 induction ls with
 | nil=>intro d h;cases h;exact ⟨rfl,fun x hx=>by simp at hx⟩
 | cons l ls ih =>
  intro d h
  simp only [editsW] at h
  cases ho:editO l with
  | none=>rw [ho] at h;cases h
  | some y =>
   rw [ho] at h
   cases hr:editsW ls with
   | none=>rw [hr] at h;cases h
   | some gs =>
    rw [hr] at h
    cases h
    obtain ⟨h1,h2⟩:=ih (fun l' hl'=>hB l' (by simp [hl'])) gs hr
    refine ⟨by simp [h1],fun x hx=>?_⟩
    rcases List.mem_cons.1 hx with rfl|hx
    ·obtain ⟨f1,f2,f3,f4⟩:=editO_fit ho
     have:=hB l (by simp)
     exact ⟨by omega,by omega,f3,f4⟩
    ·exact h2 x hx
theorem may_take (D:List Ed):mayE (D.take 17)=mayE D:=by
 by_cases h:D.length≤17
 ·rw [List.take_of_length_le h]
 ·have e:(D.take 17).length=17:=by rw [List.length_take];omega
  unfold mayE
  rw [if_pos (by omega),if_pos (by omega)]
theorem take_short {D:List Ed} (h:mayE D=0):D.take 17=D:=List.take_of_length_le (by have:=(mayE_zero h).1;omega)
theorem Kind.own_farE {α:Type} {K:Kind α} {N R:Nat} {w w':World} {v:Value} {d:List α} (h:K.Own N w v d) (hg:w.grownBy w' (some R)) (hR:R<N):K.Own N w' v d :=
 own_same h fun k hk=>hg.block k (World.ownsRow.lt h k hk).2 (fun e=>by have:=(World.ownsRow.lt h k hk).1;have:=Option.some.inj e;omega)
def ESt {M:Nat} (w:World) (N:Nat) (pre:List (Wd M)) (W:World):Prop :=
 ∃v d,W.heap[w.heap.size+2]? = some (.cells #[v] 38 (0,0))∧KE.Own (N+2) W v d∧(∃D,editsW (plainW pre)=some D∧D.length=pre.length∧d=D.take 17) ∧
  W.heap[w.heap.size]? = some (.cells #[.slice none 0 0] 38 (0,0))∧W.heap[w.heap.size+1]? = some (.cells #[.int .i64 0] 26 (0,0))∧Below w.heap.size w W∧N+2≤W.heap.size∧w.heap.size+6≤N
def EStop {M:Nat} (w:World) (N:Nat) (c:Code) (pre:List (Wd M)) (W:World):Prop :=
 c=.ret∧editsW (plainW pre)=none∧W.heap[w.heap.size]? = some (.cells #[.slice none 0 0] 38 (0,0))∧W.heap[w.heap.size+1]? = some (.cells #[.int .i64 4] 26 (0,0))∧Below w.heap.size w W∧w.heap.size+6≤N
set_option maxHeartbeats 1000000 in
theorem pparseE_empty (w:World):Calls Tryz.prog 74 #[.string ⟨#[]⟩] w fun e w'=>EWPost w (editsW (wordsAns [])) e w':=by
 refine (callsIn_wide (n:=3)).1 ?_
 refine callsIn_of_wp_marks Tryz.func74 rfl trivial ?_ rfl
 simp only [Tryz.ntmps74,List.size_toArray,List.length_cons,List.length_nil,Nat.reduceAdd,Nat.reduceSub,Array.replicate_succ,Array.replicate_zero,List.push_toArray,List.append_toArray,List.nil_append,List.cons_append]
 gi_wp2
 exact ⟨.tuple #[.slice none 0 0,.int .i64 0],by simp [results,Tryz.results74,go_sem],⟨⟨_,rfl,KE.own_nil _ _⟩,((Below.refl _ w).alloc (Nat.le_refl _) _).alloc (by simp) _⟩⟩
set_option maxHeartbeats 4000000 in
set_option maxRecDepth 100000 in
theorem pparseE_words (s:ByteArray) (w:World) (hp:PlainAt w) (h0:s.data.toList≠[]) (hs:s.size≤4294967000) :
  Calls Tryz.prog 74 #[.string s] w fun e w'=>EWPost w (editsW (wordsAns s.data.toList)) e w':=by
 refine (callsIn_wide (n:=3)).1 ?_
 refine callsIn_of_wp_marks Tryz.func74 rfl trivial ?_ rfl
 simp only [Tryz.ntmps74,List.size_toArray,List.length_cons,List.length_nil,Nat.reduceAdd,Nat.reduceSub,Array.replicate_succ,Array.replicate_zero,List.push_toArray,List.append_toArray,List.nil_append,List.cons_append]
 have hsl:(splitL s.data.toList).length≤s.size+1:=by simpa using splitL_len s.data.toList
 have hne:s.toList.isEmpty=false:=by
  rw [Lib.toList_data]
  cases h:s.data.toList with
  | nil=>exact absurd h h0
  | cons _ _=>rfl
 gi_wp2_with (refine ⟨trivial,?_⟩;gi_at_call 16;refine (callsIn_wide.2 (splitSeq_any _ _)).mono ?_;rintro e w3 ⟨rfl,hbx,hb3,hs3⟩)
 simp only [World.size_alloc] at hbx hb3 hs3
 have hb30:Below w.heap.size w w3:=((((Below.refl _ w).alloc (Nat.le_refl _) _).alloc (by simp) _).alloc (by simp;omega) _).trans (hb3.mono (by omega))
 have g0:w3.heap[w.heap.size]? = some (.cells #[.slice none 0 0] 38 (0,0)):=by
  rw [hb3.block _ (by omega),Below.heap_alloc _ _ _ (by simp;omega),Below.heap_alloc _ _ _ (by simp)];exact heap_alloc_new w _
 have g1:w3.heap[w.heap.size+1]? = some (.cells #[.int .i64 0] 26 (0,0)):=by
  rw [hb3.block _ (by omega),Below.heap_alloc _ _ _ (by simp)]
  have:=heap_alloc_new (w.alloc (.cells #[.slice none 0 0] 38)) (.cells #[.int .i64 0] 26)
  simpa using this
 have g2:w3.heap[w.heap.size+2]? = some (.cells #[.slice none 0 0] 38 (0,0)):=by
  rw [hb3.block _ (by omega)]
  have:=heap_alloc_new ((w.alloc (.cells #[.slice none 0 0] 38)).alloc (.cells #[.int .i64 0] 26)) (.cells #[.slice none 0 0] 38)
  simpa using this
 have hN6:w3.heap.size=w.heap.size+6:=by omega
 have ST0:Hid (∀o1 o2,ESt (M:=s.size) w w3.heap.size [] ((w3.alloc o1).alloc o2)):=fun o1 o2=>by
  have ha:∀k,k<w3.heap.size→((w3.alloc o1).alloc o2).heap[k]? = w3.heap[k]?:=fun k hk=>by
   rw [Below.heap_alloc _ _ _ (by simp;omega),Below.heap_alloc _ _ _ hk]
  exact ⟨.slice none 0 0,[],(ha _ (by omega)).trans g2,KE.own_nil _ _,⟨[],rfl,rfl,rfl⟩,(ha _ (by omega)).trans g0,(ha _ (by omega)).trans g1,
   (hb30.alloc hb30.size _).alloc (by have:=hb30.size;simp;omega) _,by simp,by omega⟩
 have HBX:=hid hbx
 have HP:=hid hp
 have hen:=enters_of (P:=Tryz.prog) Tryz.func61 (by kernel_rfl) rfl
 clear hbx hp g0 g1 g2 hb3 hs3
 refine wpIn_rangeFunc_box (w:=w3) rfl (by decide) (gf:=61) (lb:=#[.pointer (some ⟨w.heap.size+1+1+1+1,0,none⟩),.pointer (some ⟨w.heap.size+1+1+1,0,none⟩),.pointer (some ⟨w.heap.size+1+1+1+2,0,none⟩)]) rfl trivial hen (Bs:=w.heap.size+1+1+1) (by omega)
  (split1_seq 2 (by decide) s.size _ _ _ s (Nat.le_refl _) (by unfold maxLen;omega) w3 HBX.out) ?hKt ?hKb (fun _=>rfl) (ESt w w3.heap.size) (EStop w w3.heap.size) ?hIp ?hIb ?hXp ST0.out
  (fun x=>{ tmps:=#[.string s,undef,.pointer (some ⟨w.heap.size,0,none⟩),.pointer (some ⟨w.heap.size+1,0,none⟩),.pointer (some ⟨w.heap.size+1+1,0,none⟩),.string x.1,undef,undef,undef,.string s,.bool false,.string s,
   .func (.func 61) #[] #[.pointer (some ⟨w.heap.size+1+1+1+1,0,none⟩),.pointer (some ⟨w.heap.size+1+1+1,0,none⟩),.pointer (some ⟨w.heap.size+1+1+1+2,0,none⟩)],
   .string x.1,undef,undef,undef,undef,undef,undef,undef,undef,undef,undef,undef,undef,undef,undef,undef,undef,undef,undef,undef,undef,undef],defers:=[] }) ?assign ?body ?done ?stop
 case hKt=>exact fun h k=>⟨k.1.trans h.1,k.2.1.trans h.2.1,k.2.2.trans h.2.2⟩
 case hKb=>exact fun W l o' hl=>⟨World.putObj_heap_other (by omega),World.putObj_heap_other (by omega),World.putObj_heap_other (by omega)⟩
 case hIp =>
  rintro pre W o' ⟨v,d,k2,hox,hf,k0,k1,hb,hz,h6⟩
  have hg:W.grownBy (W.putObj (w3.heap.size+1) o') (some (w3.heap.size+1)):=grownBy_putObj' W _ o'
  exact ⟨v,d,(World.putObj_heap_other (by omega)).trans k2,Kind.own_farE hox hg (by omega),hf,(World.putObj_heap_other (by omega)).trans k0,(World.putObj_heap_other (by omega)).trans k1,hb.grown hg (by omega) (fun k e=>by cases e;omega),Nat.le_trans hz hg.size,h6⟩
 case hIb =>
  rintro pre W u ⟨v,d,k2,hox,hf,k0,k1,hb,hz,h6⟩
  have hg:W.grownBy (W.setCell ⟨w.heap.size+1+1+1,0,none⟩ u) (some (w.heap.size+1+1+1)):=grown_set W _ 0 u
  exact ⟨v,d,(hg.block _ (by omega) (by intro e;have:=Option.some.inj e;omega)).trans k2,Kind.own_farE hox hg (by omega),hf,(hg.block _ (by omega) (by intro e;have:=Option.some.inj e;omega)).trans k0,(hg.block _ (by omega) (by intro e;have:=Option.some.inj e;omega)).trans k1,hb.grown hg (by omega) (fun k e=>by cases e;omega),Nat.le_trans hz hg.size,h6⟩
 case hXp =>
  rintro c pre W o' ⟨hc,hf,k0,k1,hb,h6⟩
  have hg:W.grownBy (W.putObj (w3.heap.size+1) o') (some (w3.heap.size+1)):=grownBy_putObj' W _ o'
  exact ⟨hc,hf,(World.putObj_heap_other (by omega)).trans k0,(World.putObj_heap_other (by omega)).trans k1,⟨hg.os.trans hb.os,hg.tape.trans hb.tape,hg.output.trans hb.output,Nat.le_trans hb.size hg.size,fun k hk=>(World.putObj_heap_other (by omega)).trans (hb.block k hk)⟩,h6⟩
 case assign =>
  intro l x W K hK
  simp only [encW]
  gi_wp2
  exact hK
 case body =>
  rintro l pre x W hlW ⟨v,d,k2,hox,⟨D,hf,hl,hdD⟩,k0,k1,hb,hz,h6⟩ _
  have hwp:=read_edit x.1 W (HP.out.on hb) (Nat.le_trans x.2 hs)
  obtain ⟨i0,hi,hz0,hz1,hz2⟩:=info_parts Tryz.infoEd
  have hpl:plainW (pre++[x])=plainW pre++[x.1.data.toList]:=by simp [plainW]
  have HPL:=hid hpl
  have HF:=hid hf
  have HB:=hid hb
  have HOX:=hid hox
  have HK0:=hid k0
  have HK1:=hid k1
  have HK2:=hid k2
  have HLN:=hid hl
  have HDD:=hid hdD
  clear hpl hf hb hox hl hdD
  cases hwo:editO x.1.data.toList with
  | none =>
   rw [hwo] at hwp
   have HW:Hid (Calls Tryz.prog 118 #[.string x.1] W fun e w'=>e=.returned (.tuple #[.agg #[.int .i64 0,.string ⟨#[]⟩,.string ⟨#[]⟩],.int .i64 4])∧Below W.heap.size W w'):=hwp
   have HNO:Hid (editsW (plainW (pre++[x]))=none):=by
    show _=_
    rw [HPL.out]
    exact editsW_no hwo
   clear hwp k0 k1 k2
   have HN6:=hid hN6
   clear hN6
   gi_wp2_with (refine ⟨trivial,?_⟩;gi_at_call 118;refine (CallsIn.inRound l (callsIn_wide.2 HW.out)).mono ?_;rintro e W2 ⟨rfl,hb2⟩;have hs2:=hb2.size;have t0:=HK0.out;have t1:=HK1.out;have t0':=(Below.heap_alloc W2 (.cells #[.int .i64 0,.string ⟨#[]⟩,.string ⟨#[]⟩] 47) w.heap.size (by omega)).trans ((hb2.block w.heap.size (by omega)).trans t0);have t1':=(Below.heap_alloc W2 (.cells #[.int .i64 0,.string ⟨#[]⟩,.string ⟨#[]⟩] 47) (w.heap.size+1) (by omega)).trans ((hb2.block (w.heap.size+1) (by omega)).trans t1);obtain ⟨q0,q1⟩:=one_facts t0';obtain ⟨q2,q3⟩:=one_facts t1';have T0:=hid t0';have T1:=hid t1';clear t0 t1 t0' t1')
   have hbb:=((((HB.out.trans (hb2.mono HB.out.size)).alloc (Nat.le_trans HB.out.size hs2) (.cells #[.int .i64 0,.string ⟨#[]⟩,.string ⟨#[]⟩] 47)).setCell (p:=⟨w.heap.size,0,none⟩) (Nat.le_refl _) (.slice none 0 0)).setCell (p:=⟨w.heap.size+1,0,none⟩) (by show _≤w.heap.size+1;omega) (.int .i64 4))
   have hkf:KeepsFrom w3.heap.size W (W2.alloc (.cells #[.int .i64 0,.string ⟨#[]⟩,.string ⟨#[]⟩] 47)):=KeepsFrom.trans (keeps_below hb2) ((KeepsOthers.alloc _ _).from _)
   exact ⟨(hkf.trans ((KeepsOthers.setCell _ _ _).from _)).trans ((KeepsOthers.setCell _ _ _).from _),rfl,HNO.out,Boxed.other (Boxed.set _ T0.out) (by omega) _,Boxed.set _ (Boxed.other T1.out (by omega) _),hbb,h6⟩
  | some y =>
   rw [hwo] at hwp
   have HW:Hid (Calls Tryz.prog 118 #[.string x.1] W fun e w'=>e=.returned (.tuple #[.agg #[.int .i64 y.1,.string y.2.1,.string y.2.2],.int .i64 0])∧Below W.heap.size W w'):=hwp
   have HNO:Hid (editsW (plainW (pre++[x]))=some (D++[y])):=by
    show _=_
    rw [HPL.out]
    exact editsW_snoc HF.out hwo
   obtain ⟨yo,yf,yt⟩:=y
   simp only at HW
   clear hwp k0 k1 k2
   obtain ⟨pv,cv,rfl⟩:=Kind.own_shape HOX.out
   by_cases h17:d.length≤16
   ·have h17z:(d.length:Int)≤16:=by omega
    have HDT:Hid (d++[(yo,yf,yt)]=(D++[(yo,yf,yt)]).take 17):=by
     show _=_
     have hD:D.length≤16:=by rw [HDD.out,List.length_take] at h17;omega
     rw [List.take_of_length_le (by simp;omega),HDD.out,List.take_of_length_le (by omega)]
    have HN6:=hid hN6
    clear hN6
    gi_wp2_with (first|(gi_at_builtin;refine wpListIn_append_own _ rfl _ _ 38 rfl (w3.heap.size+2) 47 i0 (.agg #[.int .i64 0,.string ⟨#[]⟩,.string ⟨#[]⟩]) 3 40 Tryz.underlying38 hi hz0 hz1 hz2 rfl (by decide) _ _ _ rfl HX2.out ⟨W2.heap.size+1,0,none⟩ 1 1 (KE.cells [(yo,yf,yt)]) rfl rfl HC.out (KE.cells_ones _) (by unfold maxLen;omega) (by omega) (by simp;omega) ?_;intro v' w1 hown' hgrow _;obtain ⟨g',cap',rfl⟩:=ownsRow_succ hown';have hv1:=T2.out.kept hgrow (T2.out.not_row (by decide) HX2.out);have hc1:=hv1.cell;have hf1:=hv1.frozen;have HV1:=hid hv1;have HO:=hid hown';have HG:=hid hgrow;clear hv1 hown' hgrow)|(refine ⟨trivial,?_⟩;gi_at_call 118;refine (CallsIn.inRound l (callsIn_wide.2 HW.out)).mono ?_;rintro e W2 ⟨rfl,hb2⟩;have hs2:=hb2.size;have t2:=HK2.out;have t2':=(Below.heap_alloc W2 (.cells #[.int .i64 yo,.string yf,.string yt] 47) (w.heap.size+2) (by omega)).trans ((hb2.block (w.heap.size+2) (by omega)).trans t2);obtain ⟨q0,q1⟩:=one_facts t2';have T2:Hid (Boxed ((W2.alloc (.cells #[.int .i64 yo,.string yf,.string yt] 47)).alloc (.cells #[.int .i64 yo,.string yf,.string yt] 47)) (w.heap.size+2) 38 (.slice pv d.length cv)):=hid (Boxed.alloc t2' _);have HB2:Hid (Below W.heap.size W ((W2.alloc (.cells #[.int .i64 yo,.string yf,.string yt] 47)).alloc (.cells #[.int .i64 yo,.string yf,.string yt] 47))):=hid ((hb2.alloc hs2 _).alloc (by simp;omega) _);have HX2:=hid (Kind.own_on HOX.out HB2.out);have HC:=hid (KE.news (W2.alloc (.cells #[.int .i64 yo,.string yf,.string yt] 47)) (yo,yf,yt));rw [World.size_alloc] at HC;clear t2 t2'))
    have hb12:Below (w3.heap.size+2) W w1:=(HB2.out.mono hz).trans ((Below.refl _ _).grown HG.out (by simp;omega) (fun k hk=>(World.ownsRow.lt HX2.out k hk).1))
    have hsz1:=hb12.size
    have hox0:KE.Own (w3.heap.size+2) w1 (.slice (some ⟨g',0,none⟩) (d.length+1) cap') (d++[(yo,yf,yt)]):=Kind.own_snoc HO.out rfl rfl
    have hox1:=Kind.own_farE hox0 (grown_set w1 (w.heap.size+2) 0 (.slice (some ⟨g',0,none⟩) (d.length+1) cap')) (by omega)
    have hkf:KeepsFrom w3.heap.size W w1:=(keeps_below HB2.out).trans ((KeepsOthers.of_grownBy HG.out (fun j o ej hj=>row_cells HX2.out ej hj)).from _)
    refine ⟨hkf.trans ((KeepsOthers.setCell _ _ _).from _),⟨(Below.heap_setCell w1 _ _ _ (by show _≠w.heap.size+1+1;omega)).trans (hb12.block _ (by omega)),(Below.heap_setCell w1 _ _ _ (by show _≠w.heap.size+1+1;omega)).trans (hb12.block _ (by omega)),(Below.heap_setCell w1 _ _ _ (by show _≠w.heap.size+1+1;omega)).trans (hb12.block _ (by omega))⟩,?_⟩
    exact ⟨_,d++[(yo,yf,yt)],Boxed.set _ HV1.out,hox1,⟨D++[(yo,yf,yt)],HNO.out,by rw [List.length_append,List.length_append,HLN.out];rfl,HDT.out⟩,
     Boxed.other ((hb12.block _ (by omega)).trans HK0.out) (by omega) _,Boxed.other ((hb12.block _ (by omega)).trans HK1.out) (by omega) _,
     (HB.out.trans (hb12.mono (by omega))).setCell (p:=⟨w.heap.size+1+1,0,none⟩) (by show _≤w.heap.size+1+1;omega) _,by simp [World.setCell];omega,h6⟩
   ·have h17z:¬ ((d.length:Int)≤16):=by omega
    have HDT:Hid (d=(D++[(yo,yf,yt)]).take 17):=by
     show _=_
     have hD:17≤D.length:=by rw [HDD.out,List.length_take] at h17;omega
     rw [List.take_append_of_le_length hD]
     exact HDD.out
    have HN6:=hid hN6
    clear hN6
    gi_wp2_with (refine ⟨trivial,?_⟩;gi_at_call 118;refine (CallsIn.inRound l (callsIn_wide.2 HW.out)).mono ?_;rintro e W2 ⟨rfl,hb2⟩;have hs2:=hb2.size;have t2:=HK2.out;have t2':=(Below.heap_alloc W2 (.cells #[.int .i64 yo,.string yf,.string yt] 47) (w.heap.size+2) (by omega)).trans ((hb2.block (w.heap.size+2) (by omega)).trans t2);obtain ⟨q0,q1⟩:=one_facts t2';have T2:=hid t2';have HB2:Hid (Below W.heap.size W (W2.alloc (.cells #[.int .i64 yo,.string yf,.string yt] 47))):=hid (hb2.alloc hs2 _);clear t2 t2')
    refine ⟨keeps_below HB2.out,⟨HB2.out.block _ (by omega),HB2.out.block _ (by omega),HB2.out.block _ (by omega)⟩,?_⟩
    exact ⟨_,d,T2.out,Kind.own_on HOX.out HB2.out,⟨D++[(yo,yf,yt)],HNO.out,by rw [List.length_append,List.length_append,HLN.out];rfl,HDT.out⟩,
     (HB2.out.block _ (by omega)).trans HK0.out,(HB2.out.block _ (by omega)).trans HK1.out,HB.out.trans (HB2.out.mono HB.out.size),Nat.le_trans hz HB2.out.size,h6⟩
 case done =>
  rintro xs W hS ⟨v,d,k2,hox,⟨D,hf,hl,hdD⟩,k0,k1,hb,hz,h6⟩ hK
  have hfs:editsW (wordsAns s.data.toList)=some D:=by unfold wordsAns;rw [if_neg h0,←hS];exact hf
  obtain ⟨f1,f3⟩:=editsW_fit (B:=s.size) (plainW xs) (fun l hl=>by
   obtain ⟨x,_,rfl⟩:=List.mem_map.1 hl
   simpa using x.2) D hf
  have hdl:d.length≤17:=by rw [hdD,List.length_take];omega
  have hfit:FitE d:=⟨by unfold maxLen;omega,fun x hx=>by
   obtain ⟨a1,a2,a3,a4⟩:=f3 x (by rw [hdD] at hx;exact List.mem_of_mem_take hx)
   refine ⟨?_,?_,by omega,by omega⟩
   ·unfold maxLen;omega
   ·unfold maxLen;omega⟩
  have hmy:=pmayE_raw v d W (Kind.own_is hox) hfit
  have hmt:=may_take D
  rw [←hdD] at hmt
  rw [hmt] at hmy
  obtain ⟨pv,cv,rfl⟩:=Kind.own_shape hox
  obtain ⟨k,hk⟩:∃k,mayE D=k:=⟨_,rfl⟩
  have HDD:Hid (k=0→D=d):=fun e=>by rw [hdD];exact (take_short (by rw [hk];exact e)).symm
  have HCD:Hid (codeL (some D)=k):=hk
  have HAN:Hid (ansL (some D)=if k=0 then D else []):=by show _=_;rw [←hk];rfl
  rw [hk] at hmy
  have HMY:=hid hmy
  have HOX:=hid hox
  have HK0:=hid k0
  have HK1:=hid k1
  have HK2:=hid k2
  have HB:=hid hb
  have HK:=hid hK
  have HFS:=hid hfs
  have HN6:=hid hN6
  obtain ⟨c2,_⟩:=one_facts k2
  clear hmy hmt hfit hox hf hl hdD k0 k1 k2 hK hN6 hb hfs hk f1 f3
  by_cases hm:k=0
  ·have HZ:=hid hm
   subst hm
   gi_wp2_with (refine ⟨trivial,?_⟩;gi_at_call 100;refine (callsIn_wide.2 HMY.out).mono ?_;rintro e W2 ⟨rfl,hb2⟩;obtain ⟨q0,q1⟩:=one_facts ((hb2.block w.heap.size (by omega)).trans HK0.out);obtain ⟨q2,q3⟩:=one_facts ((hb2.block (w.heap.size+1) (by omega)).trans HK1.out);obtain ⟨q4,q5⟩:=one_facts ((hb2.block (w.heap.size+2) (by omega)).trans HK2.out))
   have u0:Boxed W2 w.heap.size 38 (.slice none 0 0):=(hb2.block w.heap.size (by omega)).trans HK0.out
   have u1:Boxed W2 (w.heap.size+1) 26 (.int .i64 0):=(hb2.block (w.heap.size+1) (by omega)).trans HK1.out
   obtain ⟨W4,hW4⟩:∃W4,(W2.setCell ⟨w.heap.size,0,none⟩ (.slice pv d.length cv)).setCell ⟨w.heap.size+1,0,none⟩ (.int .i64 0)=W4:=⟨_,rfl⟩
   have y0:Boxed W4 w.heap.size 38 (.slice pv d.length cv):=by rw [←hW4];exact Boxed.other (Boxed.set _ u0) (by omega) _
   have y1:Boxed W4 (w.heap.size+1) 26 (.int .i64 0):=by rw [←hW4];exact Boxed.set _ (Boxed.other u1 (by omega) _)
   have hKD:W4.heap[w3.heap.size]? = some (.deferred (some [])):=by
    rw [←hW4]
    exact (Below.heap_setCell _ _ _ _ (by show _≠w.heap.size+1;omega)).trans ((Below.heap_setCell _ _ _ _ (by show _≠w.heap.size;omega)).trans ((hb2.block _ (by omega)).trans HK.out))
   have hb4:Below w.heap.size w W4:=by
    rw [←hW4]
    exact ((HB.out.trans (hb2.mono HB.out.size)).setCell (p:=⟨w.heap.size,0,none⟩) (Nat.le_refl _) _).setCell (p:=⟨w.heap.size+1,0,none⟩) (by show _≤w.heap.size+1;omega) _
   have ha4:KE.Own (w3.heap.size+2) W4 (.slice pv d.length cv) d:=by
    rw [←hW4]
    exact Kind.own_farE (Kind.own_farE (Kind.own_on HOX.out hb2) (grown_set W2 w.heap.size 0 _) (by omega)) (grown_set _ (w.heap.size+1) 0 _) (by omega)
   rw [hW4]
   have hsz4:=hb4.size
   have hg5:W4.grownBy (W4.putObj w3.heap.size (.deferred none)) (some w3.heap.size):=grownBy_putObj' W4 _ _
   have z0:Boxed (W4.putObj w3.heap.size (.deferred none)) w.heap.size 38 (.slice pv d.length cv):=(World.putObj_heap_other (by omega)).trans y0
   have z1:Boxed (W4.putObj w3.heap.size (.deferred none)) (w.heap.size+1) 26 (.int .i64 0):=(World.putObj_heap_other (by omega)).trans y1
   have z0c:=z0.cell
   have z1c:=z1.cell
   refine ⟨by simp,.inl ⟨_,_,rfl,run_takeDeferred hKD,?_⟩⟩
   refine ⟨.tuple #[.slice pv d.length cv,.int .i64 0],by simp [results,Tryz.results74,go_sem,z0c,z1c],⟨.slice pv d.length cv,?_,?_⟩,hb4.grown hg5 (by omega) (fun k e=>by cases e;omega)⟩
   ·rw [HFS.out,HCD.out]
   ·rw [HFS.out,HAN.out]
    simp only [if_true]
    rw [HDD.out (by trivial)]
    exact Kind.own_weak (Kind.own_farE ha4 hg5 (by omega)) (by omega)
  ·have hne:(k != 0)=true:=by rw [bne_iff_ne];exact hm
   have HNZ:=hid hm
   gi_wp2_with (refine ⟨trivial,?_⟩;gi_at_call 100;refine (callsIn_wide.2 HMY.out).mono ?_;rintro e W2 ⟨rfl,hb2⟩;obtain ⟨q0,q1⟩:=one_facts ((hb2.block w.heap.size (by omega)).trans HK0.out);obtain ⟨q2,q3⟩:=one_facts ((hb2.block (w.heap.size+1) (by omega)).trans HK1.out))
   have u0:Boxed W2 w.heap.size 38 (.slice none 0 0):=(hb2.block w.heap.size (by omega)).trans HK0.out
   have u1:Boxed W2 (w.heap.size+1) 26 (.int .i64 0):=(hb2.block (w.heap.size+1) (by omega)).trans HK1.out
   obtain ⟨W4,hW4⟩:∃W4,(W2.setCell ⟨w.heap.size,0,none⟩ (.slice none 0 0)).setCell ⟨w.heap.size+1,0,none⟩ (.int .i64 k)=W4:=⟨_,rfl⟩
   have y0:Boxed W4 w.heap.size 38 (.slice none 0 0):=by rw [←hW4];exact Boxed.other (Boxed.set _ u0) (by omega) _
   have y1:Boxed W4 (w.heap.size+1) 26 (.int .i64 k):=by rw [←hW4];exact Boxed.set _ (Boxed.other u1 (by omega) _)
   have hKD:W4.heap[w3.heap.size]? = some (.deferred (some [])):=by
    rw [←hW4]
    exact (Below.heap_setCell _ _ _ _ (by show _≠w.heap.size+1;omega)).trans ((Below.heap_setCell _ _ _ _ (by show _≠w.heap.size;omega)).trans ((hb2.block _ (by omega)).trans HK.out))
   have hb4:Below w.heap.size w W4:=by
    rw [←hW4]
    exact ((HB.out.trans (hb2.mono HB.out.size)).setCell (p:=⟨w.heap.size,0,none⟩) (Nat.le_refl _) _).setCell (p:=⟨w.heap.size+1,0,none⟩) (by show _≤w.heap.size+1;omega) _
   rw [hW4]
   have hsz4:=hb4.size
   have hg5:W4.grownBy (W4.putObj w3.heap.size (.deferred none)) (some w3.heap.size):=grownBy_putObj' W4 _ _
   have z0:Boxed (W4.putObj w3.heap.size (.deferred none)) w.heap.size 38 (.slice none 0 0):=(World.putObj_heap_other (by omega)).trans y0
   have z1:Boxed (W4.putObj w3.heap.size (.deferred none)) (w.heap.size+1) 26 (.int .i64 k):=(World.putObj_heap_other (by omega)).trans y1
   have z0c:=z0.cell
   have z1c:=z1.cell
   refine ⟨by simp,.inl ⟨_,_,rfl,run_takeDeferred hKD,?_⟩⟩
   refine ⟨.tuple #[.slice none 0 0,.int .i64 k],by simp [results,Tryz.results74,go_sem,z0c,z1c],⟨.slice none 0 0,?_,?_⟩,hb4.grown hg5 (by omega) (fun k e=>by cases e;omega)⟩
   ·rw [HFS.out,HCD.out]
   ·rw [HFS.out,HAN.out,if_neg HNZ.out]
    exact KE.own_nil _ _
 case stop =>
  rintro c pre W hSp ⟨rfl,hf,k0,k1,hb,h6⟩ hK
  have HN6:=hid hN6
  clear hN6
  gi_wp2
  have hg5:W.grownBy (W.putObj w3.heap.size (.deferred none)) (some w3.heap.size):=grownBy_putObj' W _ _
  have z0:Boxed (W.putObj w3.heap.size (.deferred none)) w.heap.size 38 (.slice none 0 0):=(World.putObj_heap_other (by omega)).trans k0
  have z1:Boxed (W.putObj w3.heap.size (.deferred none)) (w.heap.size+1) 26 (.int .i64 4):=(World.putObj_heap_other (by omega)).trans k1
  have z0c:=z0.cell
  have z1c:=z1.cell
  have hno:editsW (wordsAns s.data.toList)=none:=by
   obtain ⟨r,hr⟩:=hSp
   unfold wordsAns
   rw [if_neg h0,←hr,editsW_append,hf];rfl
  refine ⟨by simp,.inl ⟨_,_,rfl,run_takeDeferred hK,?_⟩⟩
  refine ⟨.tuple #[.slice none 0 0,.int .i64 4],by simp [results,Tryz.results74,go_sem,z0c,z1c],⟨.slice none 0 0,?_,?_⟩,hb.grown hg5 hb.size (fun k e=>by cases e;omega)⟩
  ·rw [hno];rfl
  ·rw [hno];exact KE.own_nil _ _
theorem pparseE_plain (s:ByteArray) (w:World) (hp:PlainAt w) (hs:s.size≤4294967000) :
  Calls Tryz.prog 74 #[.string s] w fun e w'=>EWPost w (editsW (wordsAns s.data.toList)) e w':=by
 by_cases h0:s.data.toList=[]
 ·have e:s=⟨#[]⟩:=by
   obtain ⟨⟨l⟩⟩:=s
   cases h0
   rfl
  subst e
  exact pparseE_empty w
 ·exact pparseE_words s w hp h0 hs
end
section
open Go.RowKit
theorem ba_ext {a b:ByteArray} (h:a.data.toList=b.data.toList):a=b:=by
 obtain ⟨⟨x⟩⟩:=a
 obtain ⟨⟨y⟩⟩:=b
 simp at h
 rw [h]
theorem ba_append (a b:ByteArray):(a++b).data.toList=a.data.toList++b.data.toList:=by simp
theorem letB_slash:letB (47:Int)=false:=by decide
theorem bigB_slash:bigB (47:Int)=false:=by decide
theorem typeB_slash {l:List UInt8} (h:typeB l=true):(47:UInt8) ∉ l:=by
 cases l with
 | nil=>simp
 | cons c r =>
  simp only [typeB,spell,Bool.and_eq_true,List.all_eq_true] at h
  obtain ⟨⟨_,h1⟩,h2⟩:=h
  simp only [List.mem_cons,not_or]
  refine ⟨?_,?_⟩
  ·rintro rfl
   rw [show ((47:UInt8).toNat:Int)=47 from rfl,bigB_slash] at h1
   cases h1
  ·intro hm
   have:=h2 _ hm
   rw [show ((47:UInt8).toNat:Int)=47 from rfl,letB_slash] at this
   cases this
theorem ix_first (a b:List UInt8) (c:UInt8) (h:c ∉ a):Lib.indexByte (a++c::b) c=(a.length:Int):=by
 induction a with
 | nil=>simp [Lib.indexByte]
 | cons x a ih =>
  simp only [List.mem_cons,not_or] at h
  have hx:(x==c)=false:=by rw [beq_eq_false_iff_ne];exact fun e=>h.1 e.symm
  rw [List.cons_append]
  unfold Lib.indexByte
  rw [hx,ih h.2]
  have:((a.length:Int) == -1)=false:=by rw [beq_eq_false_iff_ne];omega
  simp [this]
theorem keyB_parts {a b:ByteArray} (h:keyB a b=true):typeB a.data.toList=true∧idenB b.data.toList=true:=by
 simpa [keyB] using h
theorem keyB_sizes {a b:ByteArray} (h:keyB a b=true):a.size≤32∧b.size≤32:=by
 obtain ⟨h1,h2⟩:=keyB_parts h
 exact ⟨by simpa using typeB_len h1,by simpa using idenB_len h2⟩
theorem cat_data (a b:ByteArray):(a++⟨#[47]⟩++b).data.toList=a.data.toList++(47:UInt8)::b.data.toList:=by
 rw [ba_append,ba_append,List.append_assoc];rfl
theorem cell_lt {w:World} {a:Addr} {v:Value} (h:w.cell? a=some v):a.block<w.heap.size:=by
 rcases Nat.lt_or_ge a.block w.heap.size with h'|h'
 ·exact h'
 ·simp [World.cell?,Array.getElem?_eq_none h'] at h
theorem kept {W w':World} (hq:Below W.heap.size W w') {b o:Nat} {v:Value} (h:W.cell? ⟨b,o,none⟩=some v):w'.cell? ⟨b,o,none⟩=some v:=by
 rw [(bcell hq).1 _ _ (cell_lt h)];exact h
end
section
open Go.RowKit Go.Lib
structure RangeE (x:Ex):Prop where
 temp:x.temp.size≤maxLen
 ka:x.ka.size≤maxLen
 kb:x.kb.size≤maxLen
 k0:-9223372036854775808≤x.kind
 k1:x.kind≤9223372036854775807
 i0:-9223372036854775808≤x.iff
 i1:x.iff≤9223372036854775807
 t0:0≤x.stamp
 t1:x.stamp≤18446744073709551615
 n0:-9223372036854775808≤x.num
 n1:x.num≤9223372036854775807
structure OwnQ (n0:Nat) (x:Ex) (w:World):Prop where
 val:OwnXs n0 w x.vs x.vo
 fit:FitX x.vo
 eds:KE.Own n0 w x.es x.eo
 efit:FitE x.eo
 prd:KM.Own n0 w x.ps x.po
 pfit:FitM x.po
 rng:RangeE x
structure BxQ (n0 g:Nat) (x:Ex) (w:World):Prop where
 box:w.heap[g]? = some (.cells (encEx x).toArray 42 (0,0))
 low:n0≤g
 own:OwnQ n0 x w
theorem row_box {w:World} {n0 n size g:Nat} {e T:TypeId} {v:Value} {xs:List Value} {c:Array Value} {fr:Nat × Nat} (h:w.ownsRow n0 e size v n xs) (hO:w.heap[g]? = some (.cells c T fr)) (ht:e≠T) (b:Nat) (hb:v.ownBlock=some b):b≠g:=fun q=>by
 rcases h.2 with ⟨rfl,_⟩|⟨k,cap,cur,hv,_,hg,_⟩
 ·cases hb
 ·rw [hv] at hb
  have:k=b:=Option.some.inj hb
  rw [this,q,hO] at hg
  injection hg with hg
  injection hg with _ h2
  exact ht h2.symm
theorem OwnQ.fr {n0 g:Nat} {x:Ex} {w W:World} {c:Array Value} {fr:Nat × Nat} (h:OwnQ n0 x w) (hO:w.heap[g]? = some (.cells c 42 fr)) (f:Fr (fun b=>b=g) w W):OwnQ n0 x W :=
 ⟨⟨f.row h.val.1 (row_box h.val.1 hO (by decide)),fun y hy=>f.row (h.val.2 y hy) (row_box (h.val.2 y hy) hO (by decide))⟩,h.fit,
  f.row (show w.ownsRow n0 KE.T KE.k x.es x.eo.length (KE.cells x.eo) from h.eds) (row_box (show w.ownsRow n0 KE.T KE.k x.es x.eo.length (KE.cells x.eo) from h.eds) hO (by decide)),h.efit,
  f.row (show w.ownsRow n0 KM.T KM.k x.ps x.po.length (KM.cells x.po) from h.prd) (row_box (show w.ownsRow n0 KM.T KM.k x.ps x.po.length (KM.cells x.po) from h.prd) hO (by decide)),h.pfit,h.rng⟩
theorem OwnQ.on {n0:Nat} {x:Ex} {w W:World} (h:OwnQ n0 x w) (hb:Below w.heap.size w W):OwnQ n0 x W :=
 have f:Fr (fun _=>False) w W:=Fr.of_below hb
 ⟨⟨f.row h.val.1 fun _ _ q=>q,fun y hy=>f.row (h.val.2 y hy) fun _ _ q=>q⟩,h.fit,
  f.row (show w.ownsRow n0 KE.T KE.k x.es x.eo.length (KE.cells x.eo) from h.eds) (fun _ _ q=>q),h.efit,
  f.row (show w.ownsRow n0 KM.T KM.k x.ps x.po.length (KM.cells x.po) from h.prd) (fun _ _ q=>q),h.pfit,h.rng⟩
theorem BxQ.lt {n0 g:Nat} {x:Ex} {w:World} (h:BxQ n0 g x w):g<w.heap.size:=(Array.getElem?_eq_some_iff.1 h.box).1
theorem BxQ.on {n0 g:Nat} {x:Ex} {w W:World} (h:BxQ n0 g x w) (hb:Below w.heap.size w W):BxQ n0 g x W :=
 ⟨(hb.block g h.lt).trans h.box,h.low,h.own.on hb⟩
theorem BxQ.cell {n0 g:Nat} {x:Ex} {w:World} (h:BxQ n0 g x w) (i:Nat) (u:Value) (hu:(encEx x)[i]? = some u):w.cell? ⟨g,i,none⟩=some u:=by
 rw [cell_of_row w g i _ _ _ h.box]
 simpa using hu
theorem BxQ.free {n0 g:Nat} {x:Ex} {w:World} (h:BxQ n0 g x w) (i:Nat):w.frozen? ⟨g,i,none⟩=false:=by
 simp [World.frozen?,h.box]
theorem fr_setE (w:World) (G j:Nat) (u:Value):Fr (fun b=>b=G) w (w.setCell ⟨G,j,none⟩ u):=by
 have hb:Below G w (w.setCell ⟨G,j,none⟩ u):=(Below.refl G w).setCell (Nat.le_refl _) _
 exact ⟨hb.os,hb.tape,hb.output,hb.size,fun k _ hn=>heap_setCell_other _ _ k _ hn⟩
theorem BxQ.set {n0 g:Nat} {x y:Ex} {w:World} (h:BxQ n0 g x w) (i:Nat) (u:Value) (hy:(encEx y).toArray=(encEx x).toArray.setIfInBounds i u) (ho:OwnQ n0 y w) :
  BxQ n0 g y (w.setCell ⟨g,i,none⟩ u) :=
 ⟨by rw [hy];exact heap_setCell_same _ g _ _ _ _ h.box,h.low,ho.fr h.box (fr_setE w g i u)⟩
def WordsAt (w:World) (v:Value) (ws:List ByteArray):Prop :=
 ∃b o c,v=.slice (some ⟨b,o,none⟩) ws.length c∧ws.length≤c∧b<w.heap.size∧∀(j:Nat) x,ws[j]? = some x→w.cell? ⟨b,o+j,none⟩=some (.string x)
theorem WordsAt.on {w W:World} {v:Value} {ws:List ByteArray} (h:WordsAt w v ws) (hb:Below w.heap.size w W):WordsAt W v ws:=by
 obtain ⟨b,o,c,h1,h2,h3,h4⟩:=h
 exact ⟨b,o,c,h1,h2,Nat.lt_of_lt_of_le h3 hb.size,fun j x hx=>(hb.cell (p:=⟨b,o+j,none⟩) h3).trans (h4 j x hx)⟩
def textW (ws:List ByteArray):ByteArray:=⟨(joinW (ws.map (·.data.toList))).toArray⟩
theorem textW_data (ws:List ByteArray):(textW ws).data.toList=joinW (ws.map (·.data.toList)):=rfl
theorem opjoin_any (w:World) (v:Value) (ws:List ByteArray) (hw:WordsAt w v ws) (hl:(textW ws).size≤4294967000) (hn:ws.length≤4294967000) :
  Calls Tryz.prog 26 #[v,.string ⟨#[32]⟩] w fun e w'=>e=.returned (.string (textW ws))∧Below w.heap.size w w':=by
 obtain ⟨b,o,c,rfl,h2,h3,h4⟩:=hw
 exact Tryz.strings_Join b o c ws ⟨#[32]⟩ w h4 h3 (by omega) h2 (by
  have:(Lib.join (ws.map (·.data.toList)) [32]).length=(textW ws).size:=rfl
  show (Lib.join (ws.map (·.data.toList)) [32]).length≤_
  omega)
theorem fitM_may {p:List Tm} (h:mayM p=0):FitM p:=by
 obtain ⟨h1,h2,h3,h4⟩:=mayM_zero h
 refine ⟨by unfold maxLen;omega,fun x hx=>?_⟩
 have a1:=fieldB_len (List.all_eq_true.1 h2 x hx)
 have a2:=List.all_eq_true.1 h3 x hx
 have a3:=List.all_eq_true.1 h4 x hx
 unfold rightM at a2
 unfold shortM at a3
 simp only [Bool.and_eq_true,decide_eq_true_eq] at a2 a3
 have e1:x.1.data.toList.length=x.1.size:=rfl
 unfold maxLen
 refine ⟨by omega,by omega,by omega,by omega⟩
theorem fitE_may {p:List Ed} (h:mayE p=0):FitE p:=by
 obtain ⟨h1,h2,h3,h4⟩:=mayE_zero h
 refine ⟨by unfold maxLen;omega,fun x hx=>?_⟩
 have a1:=fieldB_len (h2 x hx)
 have a2:=h3 x hx
 have a3:=h4 x hx
 unfold rightE at a2
 unfold shortE at a3
 simp only [Bool.and_eq_true,decide_eq_true_eq] at a2 a3
 have e1:x.2.1.data.toList.length=x.2.1.size:=rfl
 unfold maxLen
 refine ⟨by omega,by omega,by omega,by omega⟩
theorem fitM_ans (o:Option (List Tm)):FitM (ansW o):=by
 cases o with
 | none=>exact fitM_may (by decide)
 | some p =>
  by_cases h:mayM p=0
  ·exact fitM_may (ansM_again h).1
  ·have:ansW (some p)=[]:=by show ansM p=[];unfold ansM;rw [if_neg h]
   rw [this];exact fitM_may (by decide)
theorem fitE_ans (o:Option (List Ed)):FitE (ansL o):=by
 cases o with
 | none=>exact fitE_may (by decide)
 | some p =>
  by_cases h:mayE p=0
  ·have:ansL (some p)=p:=by show (if mayE p=0 then p else [])=p;rw [if_pos h]
   rw [this];exact fitE_may h
  ·have:ansL (some p)=[]:=by show (if mayE p=0 then p else [])=[];rw [if_neg h]
   rw [this];exact fitE_may (by decide)
end
section
open Go.RowKit Go.Lib
def RdPost (n0 g:Nat) (x:Ex) (p:Nat) (ws:List ByteArray) (w:World) (e:Ending) (w':World):Prop :=
 (∃ok y,e=.returned (.bool ok)∧BxQ n0 g y w'∧readP x.en p (textW ws).data.toList=if ok=true then some y.en else none)∧Fr (fun b=>b=g) w w'
theorem readP_1 (e:En) (x:List UInt8):readP e 1 x=if x=[]∨tempB (untag x)=true then some { e with temp:=⟨(untag x).toArray⟩ } else none:=by unfold readP;simp
theorem readP_2 (e:En) (x:List UInt8):readP e 2 x=(keyR x).map fun k=>{ e with ka:=k.1,kb:=k.2 }:=by unfold readP;simp
theorem readP_3 (e:En) (x:List UInt8):readP e 3 x=if typeB x=true then some { e with ka:=⟨x.toArray⟩ } else none:=by unfold readP;simp
theorem readP_4 (e:En) (x:List UInt8):readP e 4 x=(condL x).map fun (n:Nat)=>{ e with iff:=(n:Int) }:=by unfold readP;simp
theorem readP_5 (e:En) (x:List UInt8):readP e 5 x=(valR (wordsAns x)).map fun v=>{ e with val:=v }:=by unfold readP;simp
theorem readP_6 (e:En) (x:List UInt8):readP e 6 x=if x=[63] then some e else none:=by unfold readP;simp
theorem readP_7 (e:En) (x:List UInt8):readP e 7 x=(prdR (wordsAns x)).map fun v=>{ e with pred:=v }:=by unfold readP;simp
theorem readP_8 (e:En) (x:List UInt8):readP e 8 x=(edsR (wordsAns x)).bind fun v=>if v=[] then none else some { e with eds:=v }:=by unfold readP;simp
theorem readP_9 (e:En) (x:List UInt8):readP e 9 x=(numL 999999999 x).map fun (n:Nat)=>{ e with num:=(n:Int) }:=by unfold readP;simp
theorem readP_10 (e:En) (x:List UInt8):readP e 10 x=(numL 18446744073709551615 x).map fun (n:Nat)=>{ e with stamp:=(n:Int) }:=by unfold readP;simp
theorem fr_three {g:Nat} {w w1 w2 w3:World} (h1:Below w.heap.size w w1) (h2:Below w1.heap.size w1 w2) (h3:Fr (fun b=>b=g) w2 w3):Fr (fun b=>b=g) w w3 :=
 ((Fr.of_below (P:=fun b=>b=g) h1).then (Fr.of_below h2) fun _ h=>Or.inl h).then h3 fun _ h=>Or.inl h
theorem valR_P (l:List UInt8):valR (wordsAns l)=if codeP l=0 then some (ansP l) else none:=by
 unfold valR codeP ansP
 rw [fieldsP_words]
 cases fieldsP l with
 | none=>rfl
 | some fs=>rfl
theorem untag_is (l:List UInt8):trimPrefix l [64]=untag l:=by
 unfold trimPrefix untag hasPrefix
 cases l with
 | nil=>rfl
 | cons c l =>
  by_cases h:c=64
  ·subst h;rfl
  ·have h1:([64]:List UInt8).isPrefixOf (c::l)=false:=by simp [List.isPrefixOf,Ne.symm h]
   rw [if_neg (by rw [h1];simp),if_neg (by simpa using h)]
theorem nparse_q (s:ByteArray) (w:World) (hs:s.size≤maxLen) :
  Calls Tryz.prog 69 #[.string s] w fun e w'=>(∃(a b:ByteArray) (c:Int),e=.returned (.tuple #[.agg #[.string a,.string b],.int .i64 c]) ∧
   ((c=0∧keyR s.data.toList=some (a,b)∧keyB a b=true)∨(c=2∧keyR s.data.toList=none∧a=⟨#[]⟩∧b=⟨#[]⟩)))∧Below w.heap.size w w':=by
 rcases ix_cases s.data.toList 47 with ⟨h1,_⟩|⟨i,h1,h2,h3,_⟩
 ·refine (parse_bare s w hs h1).mono ?_
  rintro e w' ⟨rfl,hb⟩
  exact ⟨⟨_,_,2,rfl,.inr ⟨rfl,by unfold keyR;rw [if_pos h1],rfl,rfl⟩⟩,hb⟩
 ·have hi:i<s.size:=by simpa using h2
  have e1:(s.extract 0 i)=⟨(s.data.toList.take i).toArray⟩:=ba_ext (by rw [ext_head])
  have e2:(s.extract (i+1) s.size)=⟨(s.data.toList.drop (i+1)).toArray⟩:=ba_ext (by rw [ext_tail])
  have hne:¬ Lib.indexByte s.data.toList 47=-1:=by rw [h1];omega
  have hto:(Lib.indexByte s.data.toList 47).toNat=i:=by rw [h1];rfl
  cases hk:keyB (s.extract 0 i) (s.extract (i+1) s.size) with
  | false =>
   refine (parse_no s w hs i h1 hi hk).mono ?_
   rintro e w' ⟨rfl,hb⟩
   refine ⟨⟨_,_,2,rfl,.inr ⟨rfl,?_,rfl,rfl⟩⟩,hb⟩
   unfold keyR
   rw [if_neg hne]
   simp only [hto]
   rw [←e1,←e2,hk];rfl
  | true =>
   refine (parse_yes s w hs i h1 hi hk).mono ?_
   rintro e w' ⟨rfl,hb⟩
   refine ⟨⟨_,_,0,rfl,.inl ⟨rfl,?_,hk⟩⟩,hb⟩
   unfold keyR
   rw [if_neg hne]
   simp only [hto]
   rw [←e1,←e2,hk];rfl
section
variable (v:Value) (ws:List ByteArray) (g n0:Nat) (x:Ex) (w:World) (hv:OpVars w) (hw:WordsAt w v ws) (hl:(textW ws).size≤4294967000) (hn:ws.length≤4294967000) (hx:BxQ n0 g x w)
include hv hw hl hn hx
set_option maxHeartbeats 2000000 in
theorem read9:Calls Tryz.prog 38 #[.pointer (some ⟨g,0,none⟩),.int .i64 9,v] w fun e w'=>RdPost n0 g x 9 ws w e w':=by
 have HV:=hid hv
 have HX:=hid hx
 have HJ:=hid (opjoin_any w v ws hw hl hn)
 have HR:=hid (readP_9 x.en (textW ws).data.toList)
 clear hv hx hw
 go_enter Tryz.func38,Tryz.ntmps38
 go_wp2_with fail
 refine HJ.out.mono ?_
 rintro e w1 ⟨rfl,hb1⟩
 have HB1:=hid hb1
 clear hb1
 go_wp2_with fail
 refine (opcount_any (textW ws) w1 hl (HV.out.on HB1.out)).mono ?_
 rintro e w2 ⟨rfl,hb2⟩
 have HB2:=hid hb2
 have HX2:=hid ((HX.out.on HB1.out).on hb2)
 clear hb2
 have hc:=HX2.out.cell 9 _ rfl
 have hf:=HX2.out.free 9
 cases hn:numL 999999999 (textW ws).data.toList with
 | none =>
  have h1:(none:Option Nat).isSome=false:=rfl
  rw [h1]
  go_wp2_with fail
  go_ret
  refine ⟨⟨false,{ x with num:=0 },rfl,HX2.out.set 9 _ rfl ⟨HX2.out.own.val,HX2.out.own.fit,HX2.out.own.eds,HX2.out.own.efit,HX2.out.own.prd,HX2.out.own.pfit,{ HX2.out.own.rng with n0:=by show (-9223372036854775808:Int)≤0;omega,n1:=by show (0:Int)≤9223372036854775807;omega }⟩,?_⟩,fr_three HB1.out HB2.out (fr_setE _ _ _ _)⟩
  rw [HR.out,hn];rfl
 | some n =>
  have hle:=numL_le hn
  have h1:(some n).isSome=true:=rfl
  rw [h1]
  go_wp2_with fail
  go_ret
  refine ⟨⟨true,{ x with num:=n },rfl,HX2.out.set 9 _ rfl ⟨HX2.out.own.val,HX2.out.own.fit,HX2.out.own.eds,HX2.out.own.efit,HX2.out.own.prd,HX2.out.own.pfit,{ HX2.out.own.rng with n0:=by show (-9223372036854775808:Int)≤n;omega,n1:=by show (n:Int)≤9223372036854775807;omega }⟩,?_⟩,fr_three HB1.out HB2.out (fr_setE _ _ _ _)⟩
  rw [HR.out,hn];rfl
set_option maxHeartbeats 2000000 in
theorem read10:Calls Tryz.prog 38 #[.pointer (some ⟨g,0,none⟩),.int .i64 10,v] w fun e w'=>RdPost n0 g x 10 ws w e w':=by
 have HV:=hid hv
 have HX:=hid hx
 have HJ:=hid (opjoin_any w v ws hw hl hn)
 have HR:=hid (readP_10 x.en (textW ws).data.toList)
 clear hv hx hw
 go_enter Tryz.func38,Tryz.ntmps38
 go_wp2_with fail
 refine HJ.out.mono ?_
 rintro e w1 ⟨rfl,hb1⟩
 have HB1:=hid hb1
 clear hb1
 go_wp2_with fail
 refine (whole_any (textW ws) w1 hl (HV.out.on HB1.out)).mono ?_
 rintro e w2 ⟨rfl,hb2⟩
 have HB2:=hid hb2
 have HX2:=hid ((HX.out.on HB1.out).on hb2)
 clear hb2
 have hc:=HX2.out.cell 8 _ rfl
 have hf:=HX2.out.free 8
 cases hn:numL 18446744073709551615 (textW ws).data.toList with
 | none =>
  have h1:(none:Option Nat).isSome=false:=rfl
  rw [h1]
  go_wp2_with fail
  go_ret
  refine ⟨⟨false,{ x with stamp:=0 },rfl,HX2.out.set 8 _ rfl ⟨HX2.out.own.val,HX2.out.own.fit,HX2.out.own.eds,HX2.out.own.efit,HX2.out.own.prd,HX2.out.own.pfit,{ HX2.out.own.rng with t0:=by show (0:Int)≤0;omega,t1:=by show (0:Int)≤18446744073709551615;omega }⟩,?_⟩,fr_three HB1.out HB2.out (fr_setE _ _ _ _)⟩
  rw [HR.out,hn];rfl
 | some n =>
  have hle:=numL_le hn
  have h1:(some n).isSome=true:=rfl
  rw [h1]
  go_wp2_with fail
  go_ret
  refine ⟨⟨true,{ x with stamp:=n },rfl,HX2.out.set 8 _ rfl ⟨HX2.out.own.val,HX2.out.own.fit,HX2.out.own.eds,HX2.out.own.efit,HX2.out.own.prd,HX2.out.own.pfit,{ HX2.out.own.rng with t0:=by show (0:Int)≤n;omega,t1:=by show (n:Int)≤18446744073709551615;omega }⟩,?_⟩,fr_three HB1.out HB2.out (fr_setE _ _ _ _)⟩
  rw [HR.out,hn];rfl
set_option maxHeartbeats 2000000 in
theorem read4:Calls Tryz.prog 38 #[.pointer (some ⟨g,0,none⟩),.int .i64 4,v] w fun e w'=>RdPost n0 g x 4 ws w e w':=by
 have HV:=hid hv
 have HX:=hid hx
 have HJ:=hid (opjoin_any w v ws hw hl hn)
 have HR:=hid (readP_4 x.en (textW ws).data.toList)
 clear hv hx hw
 go_enter Tryz.func38,Tryz.ntmps38
 go_wp2_with fail
 refine HJ.out.mono ?_
 rintro e w1 ⟨rfl,hb1⟩
 have HB1:=hid hb1
 clear hb1
 go_wp2_with fail
 refine (condition_any (textW ws) w1 hl (HV.out.on HB1.out)).mono ?_
 rintro e w2 ⟨⟨m,rfl,hm0,hm1,hm⟩,hb2⟩
 have HM:=hid hm
 clear hm
 have HB2:=hid hb2
 have HX2:=hid ((HX.out.on HB1.out).on hb2)
 clear hb2
 have hc:=HX2.out.cell 4 _ rfl
 have hf:=HX2.out.free 4
 have HC:Hid (condO (textW ws)=condL (textW ws).data.toList):=hid rfl
 cases hn:condO (textW ws) with
 | none =>
  have h1:(none:Option Nat).isSome=false:=rfl
  rw [h1]
  go_wp2_with fail
  go_ret
  refine ⟨⟨false,{ x with iff:=m },rfl,HX2.out.set 4 _ rfl ⟨HX2.out.own.val,HX2.out.own.fit,HX2.out.own.eds,HX2.out.own.efit,HX2.out.own.prd,HX2.out.own.pfit,{ HX2.out.own.rng with i0:=by show (-9223372036854775808:Int)≤m;omega,i1:=by show m≤9223372036854775807;omega }⟩,?_⟩,fr_three HB1.out HB2.out (fr_setE _ _ _ _)⟩
  rw [HR.out,←HC.out,hn];rfl
 | some n =>
  have h1:(some n).isSome=true:=rfl
  rw [h1]
  have hmn:=HM.out n hn
  subst hmn
  go_wp2_with fail
  go_ret
  refine ⟨⟨true,{ x with iff:=n },rfl,HX2.out.set 4 _ rfl ⟨HX2.out.own.val,HX2.out.own.fit,HX2.out.own.eds,HX2.out.own.efit,HX2.out.own.prd,HX2.out.own.pfit,{ HX2.out.own.rng with i0:=by show (-9223372036854775808:Int)≤n;omega,i1:=by show (n:Int)≤9223372036854775807;omega }⟩,?_⟩,fr_three HB1.out HB2.out (fr_setE _ _ _ _)⟩
  rw [HR.out,←HC.out,hn];rfl
set_option maxHeartbeats 2000000 in
theorem read3:Calls Tryz.prog 38 #[.pointer (some ⟨g,0,none⟩),.int .i64 3,v] w fun e w'=>RdPost n0 g x 3 ws w e w':=by
 have HV:=hid hv
 have HX:=hid hx
 have HJ:=hid (opjoin_any w v ws hw hl hn)
 have HR:=hid (readP_3 x.en (textW ws).data.toList)
 clear hv hx hw
 go_enter Tryz.func38,Tryz.ntmps38
 go_wp2_with fail
 refine HJ.out.mono ?_
 rintro e w1 ⟨rfl,hb1⟩
 have HB1:=hid hb1
 clear hb1
 have hc:=(HX.out.on HB1.out).cell 2 _ rfl
 have hf:=(HX.out.on HB1.out).free 2
 have hm:(textW ws).size≤maxLen:=by unfold maxLen;omega
 have HX2:=hid (HX.out.on HB1.out)
 cases ht:typeB (textW ws).data.toList with
 | false =>
  go_wp2_with (go_at_call 70;refine (type_any (textW ws) _ hm).mono ?_;rintro e w2 ⟨rfl,rfl⟩;rw [ht])
  go_ret
  refine ⟨⟨false,{ x with ka:=textW ws },rfl,HX2.out.set 2 _ rfl ⟨HX2.out.own.val,HX2.out.own.fit,HX2.out.own.eds,HX2.out.own.efit,HX2.out.own.prd,HX2.out.own.pfit,{ HX2.out.own.rng with ka:=hm }⟩,?_⟩,fr_three HB1.out (Below.refl _ _) (fr_setE _ _ _ _)⟩
  rw [HR.out,ht];rfl
 | true =>
  go_wp2_with (go_at_call 70;refine (type_any (textW ws) _ hm).mono ?_;rintro e w2 ⟨rfl,rfl⟩;rw [ht])
  go_ret
  refine ⟨⟨true,{ x with ka:=textW ws },rfl,HX2.out.set 2 _ rfl ⟨HX2.out.own.val,HX2.out.own.fit,HX2.out.own.eds,HX2.out.own.efit,HX2.out.own.prd,HX2.out.own.pfit,{ HX2.out.own.rng with ka:=hm }⟩,?_⟩,fr_three HB1.out (Below.refl _ _) (fr_setE _ _ _ _)⟩
  rw [HR.out,ht];rfl
set_option maxHeartbeats 2000000 in
theorem read6:Calls Tryz.prog 38 #[.pointer (some ⟨g,0,none⟩),.int .i64 6,v] w fun e w'=>RdPost n0 g x 6 ws w e w':=by
 have HV:=hid hv
 have HX:=hid hx
 have HJ:=hid (opjoin_any w v ws hw hl hn)
 have HR:=hid (readP_6 x.en (textW ws).data.toList)
 clear hv hx hw
 go_enter Tryz.func38,Tryz.ntmps38
 go_wp2_with fail
 refine HJ.out.mono ?_
 rintro e w1 ⟨rfl,hb1⟩
 have HB1:=hid hb1
 clear hb1
 have HX2:=hid (HX.out.on HB1.out)
 by_cases ht:(textW ws).data.toList=[63]
 ·have hq:((textW ws).toList==[63])=true:=by rw [toList_data,ht];rfl
  have HT:=hid ht
  clear ht
  go_wp2_with fail
  go_ret
  refine ⟨⟨true,x,rfl,HX2.out,?_⟩,Fr.of_below HB1.out⟩
  rw [HR.out,if_pos HT.out];rfl
 ·have hq:((textW ws).toList==[63])=false:=by rw [toList_data];exact beq_eq_false_iff_ne.2 ht
  have HT:=hid ht
  clear ht
  go_wp2_with fail
  go_ret
  refine ⟨⟨false,x,rfl,HX2.out,?_⟩,Fr.of_below HB1.out⟩
  rw [HR.out,if_neg HT.out];rfl
set_option maxHeartbeats 2000000 in
theorem read7:Calls Tryz.prog 38 #[.pointer (some ⟨g,0,none⟩),.int .i64 7,v] w fun e w'=>RdPost n0 g x 7 ws w e w':=by
 have HV:=hid hv
 have HX:=hid hx
 have HJ:=hid (opjoin_any w v ws hw hl hn)
 have HR:=hid (readP_7 x.en (textW ws).data.toList)
 clear hv hx hw
 go_enter Tryz.func38,Tryz.ntmps38
 go_wp2_with fail
 refine HJ.out.mono ?_
 rintro e w1 ⟨rfl,hb1⟩
 have HB1:=hid hb1
 clear hb1
 go_wp2_with fail
 refine (pparse_any (textW ws) w1 (HV.out.on HB1.out).plain hl).mono ?_
 rintro e w2 ⟨⟨u,rfl,ho⟩,hb2⟩
 obtain ⟨up,uc,hu⟩:=Kind.own_shape ho
 subst hu
 have HO:=hid (Kind.own_weak ho (Nat.le_trans (Nat.le_of_lt (Nat.lt_of_le_of_lt HX.out.low HX.out.lt)) HB1.out.size))
 clear ho
 have HB2:=hid hb2
 have HX2:=hid ((HX.out.on HB1.out).on hb2)
 clear hb2
 have hc:=HX2.out.cell 7 _ rfl
 have hf:=HX2.out.free 7
 have HF:=hid (fitM_ans (termsW (wordsAns (textW ws).data.toList)))
 have HP:Hid (prdR (wordsAns (textW ws).data.toList)=if codeW (termsW (wordsAns (textW ws).data.toList))=0 then some (ansW (termsW (wordsAns (textW ws).data.toList))) else none):=hid rfl
 generalize hcw:codeW (termsW (wordsAns (textW ws).data.toList))=cw at *
 generalize haw:ansW (termsW (wordsAns (textW ws).data.toList))=aw at *
 clear hcw haw
 by_cases hz:cw=0
 ·subst hz
  go_wp2_with fail
  go_ret
  refine ⟨⟨true,{ x with pp:=up,pc:=uc,po:=aw },rfl,HX2.out.set 7 _ rfl ⟨HX2.out.own.val,HX2.out.own.fit,HX2.out.own.eds,HX2.out.own.efit,HO.out,HF.out,{ HX2.out.own.rng with }⟩,?_⟩,fr_three HB1.out HB2.out (fr_setE _ _ _ _)⟩
  rw [HR.out,HP.out];rfl
 ·have hq:(cw==0)=false:=beq_eq_false_iff_ne.2 hz
  go_wp2_with fail
  go_ret
  refine ⟨⟨false,{ x with pp:=up,pc:=uc,po:=aw },rfl,HX2.out.set 7 _ rfl ⟨HX2.out.own.val,HX2.out.own.fit,HX2.out.own.eds,HX2.out.own.efit,HO.out,HF.out,{ HX2.out.own.rng with }⟩,?_⟩,fr_three HB1.out HB2.out (fr_setE _ _ _ _)⟩
  rw [HR.out,HP.out,if_neg hz];rfl
set_option maxHeartbeats 2000000 in
theorem read5:Calls Tryz.prog 38 #[.pointer (some ⟨g,0,none⟩),.int .i64 5,v] w fun e w'=>RdPost n0 g x 5 ws w e w':=by
 have HV:=hid hv
 have HX:=hid hx
 have HJ:=hid (opjoin_any w v ws hw hl hn)
 have HR:=hid (readP_5 x.en (textW ws).data.toList)
 clear hv hx hw
 go_enter Tryz.func38,Tryz.ntmps38
 go_wp2_with fail
 refine HJ.out.mono ?_
 rintro e w1 ⟨rfl,hb1⟩
 have HB1:=hid hb1
 clear hb1
 go_wp2_with fail
 refine (parse_plain (textW ws) w1 (HV.out.on HB1.out).plain (by omega)).mono ?_
 rintro e w2 ⟨⟨u,o,rfl,ho,ha⟩,hb2⟩
 obtain ⟨up,uc,hu⟩:=own_len ho
 subst hu
 have HF:=hid (ansP_fit ha)
 have hle:n0≤w1.heap.size:=Nat.le_trans (Nat.le_of_lt (Nat.lt_of_le_of_lt HX.out.low HX.out.lt)) HB1.out.size
 have HO:Hid (OwnXs n0 w2 (.slice up o.length uc) o):=hid ⟨own_weak ho.1 hle,fun y hy=>own_weak (ho.2 y hy) hle⟩
 have HA:=hid ha
 clear ho ha hle
 have HB2:=hid hb2
 have HX2:=hid ((HX.out.on HB1.out).on hb2)
 clear hb2
 have hc:=HX2.out.cell 5 _ rfl
 have hf:=HX2.out.free 5
 have HP:Hid (valR (wordsAns (textW ws).data.toList)=if codeP (textW ws).data.toList=0 then some (ansP (textW ws).data.toList) else none):=hid (valR_P _)
 generalize hcw:codeP (textW ws).data.toList=cw at *
 clear hcw
 by_cases hz:cw=0
 ·subst hz
  go_wp2_with fail
  go_ret
  refine ⟨⟨true,{ x with vp:=up,vc:=uc,vo:=o },rfl,HX2.out.set 5 _ rfl ⟨HO.out,HF.out,HX2.out.own.eds,HX2.out.own.efit,HX2.out.own.prd,HX2.out.own.pfit,{ HX2.out.own.rng with }⟩,?_⟩,fr_three HB1.out HB2.out (fr_setE _ _ _ _)⟩
  rw [HR.out,HP.out]
  simp only [if_true,Option.map_some,←HA.out]
  rfl
 ·have hq:(cw==0)=false:=beq_eq_false_iff_ne.2 hz
  go_wp2_with fail
  go_ret
  refine ⟨⟨false,{ x with vp:=up,vc:=uc,vo:=o },rfl,HX2.out.set 5 _ rfl ⟨HO.out,HF.out,HX2.out.own.eds,HX2.out.own.efit,HX2.out.own.prd,HX2.out.own.pfit,{ HX2.out.own.rng with }⟩,?_⟩,fr_three HB1.out HB2.out (fr_setE _ _ _ _)⟩
  rw [HR.out,HP.out,if_neg hz];rfl
set_option maxHeartbeats 2000000 in
theorem read8:Calls Tryz.prog 38 #[.pointer (some ⟨g,0,none⟩),.int .i64 8,v] w fun e w'=>RdPost n0 g x 8 ws w e w':=by
 have HV:=hid hv
 have HX:=hid hx
 have HJ:=hid (opjoin_any w v ws hw hl hn)
 have HR:=hid (readP_8 x.en (textW ws).data.toList)
 clear hv hx hw
 go_enter Tryz.func38,Tryz.ntmps38
 go_wp2_with fail
 refine HJ.out.mono ?_
 rintro e w1 ⟨rfl,hb1⟩
 have HB1:=hid hb1
 clear hb1
 go_wp2_with fail
 refine (pparseE_plain (textW ws) w1 (HV.out.on HB1.out).plain hl).mono ?_
 rintro e w2 ⟨⟨u,rfl,ho⟩,hb2⟩
 obtain ⟨up,uc,hu⟩:=Kind.own_shape ho
 subst hu
 have HO:=hid (Kind.own_weak ho (Nat.le_trans (Nat.le_of_lt (Nat.lt_of_le_of_lt HX.out.low HX.out.lt)) HB1.out.size))
 clear ho
 have HB2:=hid hb2
 have HX2:=hid ((HX.out.on HB1.out).on hb2)
 clear hb2
 have hc:=HX2.out.cell 6 _ rfl
 have hf:=HX2.out.free 6
 have HF:=hid (fitE_ans (editsW (wordsAns (textW ws).data.toList)))
 have HP:Hid (edsR (wordsAns (textW ws).data.toList)=if codeL (editsW (wordsAns (textW ws).data.toList))=0 then some (ansL (editsW (wordsAns (textW ws).data.toList))) else none):=hid rfl
 generalize hcw:codeL (editsW (wordsAns (textW ws).data.toList))=cw at *
 generalize haw:ansL (editsW (wordsAns (textW ws).data.toList))=aw at *
 clear hcw haw
 by_cases hne:aw=[]
 ·subst hne
  have h0:¬ (0:Int)<(([]:List Ed).length:Int):=by simp
  go_wp2_with fail
  go_ret
  refine ⟨⟨false,{ x with ep:=up,ec:=uc,eo:=[] },rfl,HX2.out.set 6 _ rfl ⟨HX2.out.own.val,HX2.out.own.fit,HO.out,HF.out,HX2.out.own.prd,HX2.out.own.pfit,{ HX2.out.own.rng with }⟩,?_⟩,fr_three HB1.out HB2.out (fr_setE _ _ _ _)⟩
  rw [HR.out,HP.out]
  split<;>rfl
 ·have h0:(0:Int)<(aw.length:Int):=by have:=List.length_pos_iff.2 hne;omega
  by_cases hz:cw=0
  ·subst hz
   go_wp2_with fail
   go_ret
   refine ⟨⟨true,{ x with ep:=up,ec:=uc,eo:=aw },rfl,HX2.out.set 6 _ rfl ⟨HX2.out.own.val,HX2.out.own.fit,HO.out,HF.out,HX2.out.own.prd,HX2.out.own.pfit,{ HX2.out.own.rng with }⟩,?_⟩,fr_three HB1.out HB2.out (fr_setE _ _ _ _)⟩
   rw [HR.out,HP.out]
   simp only [if_true,Option.bind_some]
   rw [if_neg hne]
   rfl
  ·have hq:(cw==0)=false:=beq_eq_false_iff_ne.2 hz
   go_wp2_with fail
   go_ret
   refine ⟨⟨false,{ x with ep:=up,ec:=uc,eo:=aw },rfl,HX2.out.set 6 _ rfl ⟨HX2.out.own.val,HX2.out.own.fit,HO.out,HF.out,HX2.out.own.prd,HX2.out.own.pfit,{ HX2.out.own.rng with }⟩,?_⟩,fr_three HB1.out HB2.out (fr_setE _ _ _ _)⟩
   rw [HR.out,HP.out,if_neg hz];rfl
set_option maxHeartbeats 2000000 in
theorem read2:Calls Tryz.prog 38 #[.pointer (some ⟨g,0,none⟩),.int .i64 2,v] w fun e w'=>RdPost n0 g x 2 ws w e w':=by
 have HV:=hid hv
 have HX:=hid hx
 have HJ:=hid (opjoin_any w v ws hw hl hn)
 have HR:=hid (readP_2 x.en (textW ws).data.toList)
 clear hv hx hw
 go_enter Tryz.func38,Tryz.ntmps38
 go_wp2_with fail
 refine HJ.out.mono ?_
 rintro e w1 ⟨rfl,hb1⟩
 have HB1:=hid hb1
 clear hb1
 go_wp2_with fail
 refine (nparse_q (textW ws) w1 (by unfold maxLen;omega)).mono ?_
 rintro e w2 ⟨⟨ka,kb,c,rfl,hk⟩,hb2⟩
 have HK:=hid hk
 clear hk
 have HB2:=hid hb2
 have HX2:=hid ((HX.out.on HB1.out).on hb2)
 clear hb2
 have hc:=HX2.out.cell 2 _ rfl
 have hf:=HX2.out.free 2
 have hc3:=HX2.out.cell 3 _ rfl
 have hf3:=HX2.out.free 3
 have HS:Hid (ka.size≤maxLen∧kb.size≤maxLen):=hid (by
  rcases HK.out with ⟨_,_,h⟩|⟨_,_,rfl,rfl⟩
  ·have:=keyB_sizes h;unfold maxLen;omega
  ·unfold maxLen;exact ⟨by decide,by decide⟩)
 by_cases hz:c=0
 ·subst hz
  have HK2:Hid (keyR (textW ws).data.toList=some (ka,kb)):=hid (by
   rcases HK.out with ⟨_,h,_⟩|⟨h,_⟩
   ·exact h
   ·cases h)
  go_wp2_with fail
  go_ret
  have HY:=hid (HX2.out.set (y:={ x with ka:=ka }) 2 (.string ka) rfl ⟨HX2.out.own.val,HX2.out.own.fit,HX2.out.own.eds,HX2.out.own.efit,HX2.out.own.prd,HX2.out.own.pfit,{ HX2.out.own.rng with ka:=HS.out.1 }⟩)
  refine ⟨⟨true,{ x with ka:=ka,kb:=kb },rfl,HY.out.set 3 _ rfl ⟨HY.out.own.val,HY.out.own.fit,HY.out.own.eds,HY.out.own.efit,HY.out.own.prd,HY.out.own.pfit,{ HY.out.own.rng with kb:=HS.out.2 }⟩,?_⟩,fr_three HB1.out HB2.out ((fr_setE _ _ _ _).then (fr_setE _ _ _ _) fun _ h=>Or.inl h)⟩
  rw [HR.out,HK2.out];rfl
 ·have hq:(c==0)=false:=beq_eq_false_iff_ne.2 hz
  have HK2:Hid (keyR (textW ws).data.toList=none):=hid (by
   rcases HK.out with ⟨h,_⟩|⟨_,h,_⟩
   ·exact absurd h hz
   ·exact h)
  go_wp2_with fail
  go_ret
  have HY:=hid (HX2.out.set (y:={ x with ka:=ka }) 2 (.string ka) rfl ⟨HX2.out.own.val,HX2.out.own.fit,HX2.out.own.eds,HX2.out.own.efit,HX2.out.own.prd,HX2.out.own.pfit,{ HX2.out.own.rng with ka:=HS.out.1 }⟩)
  refine ⟨⟨false,{ x with ka:=ka,kb:=kb },rfl,HY.out.set 3 _ rfl ⟨HY.out.own.val,HY.out.own.fit,HY.out.own.eds,HY.out.own.efit,HY.out.own.prd,HY.out.own.pfit,{ HY.out.own.rng with kb:=HS.out.2 }⟩,?_⟩,fr_three HB1.out HB2.out ((fr_setE _ _ _ _).then (fr_setE _ _ _ _) fun _ h=>Or.inl h)⟩
  rw [HR.out,HK2.out];rfl
set_option maxHeartbeats 2000000 in
theorem read1:Calls Tryz.prog 38 #[.pointer (some ⟨g,0,none⟩),.int .i64 1,v] w fun e w'=>RdPost n0 g x 1 ws w e w':=by
 have HV:=hid hv
 have HX:=hid hx
 have HJ:=hid (opjoin_any w v ws hw hl hn)
 have HR:=hid (readP_1 x.en (textW ws).data.toList)
 clear hv hx hw
 go_enter Tryz.func38,Tryz.ntmps38
 go_wp2_with fail
 refine HJ.out.mono ?_
 rintro e w1 ⟨rfl,hb1⟩
 have HB1:=hid hb1
 clear hb1
 have hc:=(HX.out.on HB1.out).cell 1 _ rfl
 have hf:=(HX.out.on HB1.out).free 1
 have HX2:=hid (HX.out.on HB1.out)
 have HU:Hid (trimPrefix (textW ws).data.toList [64]=untag (textW ws).data.toList):=hid (untag_is _)
 have hm:(⟨(untag (textW ws).data.toList).toArray⟩:ByteArray).size≤maxLen:=by
  have:=trim_len (textW ws).data.toList [64]
  rw [HU.out] at this
  have e1:(⟨(untag (textW ws).data.toList).toArray⟩:ByteArray).size=(untag (textW ws).data.toList).length:=rfl
  have e2:(textW ws).data.toList.length=(textW ws).size:=rfl
  unfold maxLen;omega
 by_cases h0:(textW ws).data.toList=[]
 ·have hse:(textW ws).toList.isEmpty=true:=by rw [toList_data,h0];rfl
  have H0:=hid h0
  clear h0
  go_wp2_with (go_at_call 67;refine (Tryz.strings_TrimPrefix _ _ _).mono ?_;rintro e w2 ⟨rfl,rfl⟩;rw [HU.out])
  go_ret
  refine ⟨⟨true,{ x with temp:=⟨(untag (textW ws).data.toList).toArray⟩ },rfl,HX2.out.set 1 _ rfl ⟨HX2.out.own.val,HX2.out.own.fit,HX2.out.own.eds,HX2.out.own.efit,HX2.out.own.prd,HX2.out.own.pfit,{ HX2.out.own.rng with temp:=hm }⟩,?_⟩,fr_three HB1.out (Below.refl _ _) (fr_setE _ _ _ _)⟩
  rw [HR.out,if_pos (Or.inl H0.out)];rfl
 ·have hse:(textW ws).toList.isEmpty=false:=by
   rw [toList_data]
   cases hl:(textW ws).data.toList with
   | nil=>exact absurd hl h0
   | cons _ _=>rfl
  have H0:=hid h0
  clear h0
  cases ht:tempB (untag (textW ws).data.toList) with
  | false =>
   go_wp2_with (first
    | (go_at_call 67;refine (Tryz.strings_TrimPrefix _ _ _).mono ?_;rintro e w2 ⟨rfl,rfl⟩;rw [HU.out])
    | (go_at_call 68;refine (temp_any ⟨(untag (textW ws).data.toList).toArray⟩ _ hm).mono ?_;rintro e w2 ⟨rfl,rfl⟩;rw [ht]))
   go_ret
   refine ⟨⟨false,{ x with temp:=⟨(untag (textW ws).data.toList).toArray⟩ },rfl,HX2.out.set 1 _ rfl ⟨HX2.out.own.val,HX2.out.own.fit,HX2.out.own.eds,HX2.out.own.efit,HX2.out.own.prd,HX2.out.own.pfit,{ HX2.out.own.rng with temp:=hm }⟩,?_⟩,fr_three HB1.out (Below.refl _ _) (fr_setE _ _ _ _)⟩
   rw [HR.out,if_neg]
   ·rfl
   ·rintro (h|h)
    ·exact H0.out h
    ·rw [ht] at h;cases h
  | true =>
   go_wp2_with (first
    | (go_at_call 67;refine (Tryz.strings_TrimPrefix _ _ _).mono ?_;rintro e w2 ⟨rfl,rfl⟩;rw [HU.out])
    | (go_at_call 68;refine (temp_any ⟨(untag (textW ws).data.toList).toArray⟩ _ hm).mono ?_;rintro e w2 ⟨rfl,rfl⟩;rw [ht]))
   go_ret
   refine ⟨⟨true,{ x with temp:=⟨(untag (textW ws).data.toList).toArray⟩ },rfl,HX2.out.set 1 _ rfl ⟨HX2.out.own.val,HX2.out.own.fit,HX2.out.own.eds,HX2.out.own.efit,HX2.out.own.prd,HX2.out.own.pfit,{ HX2.out.own.rng with temp:=hm }⟩,?_⟩,fr_three HB1.out (Below.refl _ _) (fr_setE _ _ _ _)⟩
   rw [HR.out,if_pos (Or.inr ht)];rfl
theorem opread_any (p:Nat) (h1:1≤p) (h2:p≤10):Calls Tryz.prog 38 #[.pointer (some ⟨g,0,none⟩),.int .i64 p,v] w fun e w'=>RdPost n0 g x p ws w e w':=by
 have:p=1∨p=2∨p=3∨p=4∨p=5∨p=6∨p=7∨p=8∨p=9∨p=10:=by omega
 rcases this with rfl|rfl|rfl|rfl|rfl|rfl|rfl|rfl|rfl|rfl
 ·exact read1 v ws g n0 x w hv hw hl hn hx
 ·exact read2 v ws g n0 x w hv hw hl hn hx
 ·exact read3 v ws g n0 x w hv hw hl hn hx
 ·exact read4 v ws g n0 x w hv hw hl hn hx
 ·exact read5 v ws g n0 x w hv hw hl hn hx
 ·exact read6 v ws g n0 x w hv hw hl hn hx
 ·exact read7 v ws g n0 x w hv hw hl hn hx
 ·exact read8 v ws g n0 x w hv hw hl hn hx
 ·exact read9 v ws g n0 x w hv hw hl hn hx
 ·exact read10 v ws g n0 x w hv hw hl hn hx
end
end
section
open Go.RowKit Go.Lib
theorem ba_is {z:ByteArray} {l:List UInt8}:z=⟨l.toArray⟩↔z.data.toList=l:=by
 constructor
 ·rintro rfl;rfl
 ·intro h;exact ba_ext h
theorem idx_while (ws:List ByteArray):∀i:Nat,idxFromS ws ⟨#[63]⟩ i=if [63]∈ws.map (·.data.toList) then ((i+((ws.map (·.data.toList)).takeWhile fun x=>decide (x≠[63])).length:Nat):Int) else -1:=by
 induction ws with
 | nil=>intro i;simp [idxFromS]
 | cons z ws ih =>
  intro i
  by_cases hz:z.data.toList=[63]
  ·have hz':z=⟨#[63]⟩:=ba_is.2 hz
   rw [idxFromS,if_pos hz',if_pos (by simp [hz]),List.map_cons,List.takeWhile_cons,if_neg (by simp [hz])]
   rfl
  ·have hz':¬ z=⟨#[63]⟩:=fun q=>hz (by rw [q])
   have ht:decide (z.data.toList≠[63])=true:=by simpa using hz
   rw [idxFromS,if_neg hz',ih (i+1),List.map_cons,List.takeWhile_cons]
   simp only [ht,if_true]
   by_cases hm:[63]∈ws.map (·.data.toList)
   ·rw [if_pos hm,if_pos (List.mem_cons_of_mem _ hm),List.length_cons]
    congr 1;omega
   ·rw [if_neg hm,if_neg]
    rw [List.mem_cons]
    rintro (q|q)
    ·exact hz q.symm
    ·exact hm q
theorem idx_span (ws:List ByteArray):idxOfS ws ⟨#[63]⟩=if [63]∈ws.map (·.data.toList) then (spanP (ws.map (·.data.toList)) 5:Int) else -1:=by
 unfold idxOfS
 rw [idx_while ws 0,Nat.zero_add]
 rfl
theorem span_sign (x:ByteArray) (ws:List ByteArray):spanP ((x::ws).map (·.data.toList)) 1=if hasPrefix x.data.toList [64]=true then 1 else 0:=by
 show (if (some x.data.toList).bind List.head? = some 64 then 1 else 0)=_
 unfold hasPrefix
 rw [Option.bind_some]
 cases x.data.toList with
 | nil=>rfl
 | cons c l =>
  by_cases h:c=64
  ·subst h;simp [List.isPrefixOf]
  ·rw [if_neg (by simpa using h),if_neg]
   simp [List.isPrefixOf,Ne.symm h]
section
variable (v:Value) (ws:List ByteArray) (w:World) (hw:WordsAt w v ws) (hn:ws.length≤4294967000)
include hw hn
set_option maxHeartbeats 2000000 in
theorem opspan_any (p:Nat) (h1:1≤p) (h2:p≤10):Calls Tryz.prog 37 #[v,.int .i64 p] w fun e w'=>e=.returned (.int .i64 (spanP (ws.map (·.data.toList)) p))∧Below w.heap.size w w':=by
 have HW:=hid hw
 obtain ⟨b,o,c,rfl,hc,hb,hcells⟩:=hw
 have HC:=hid hcells
 have hp:p=2∨p=3∨p=6∨p=9∨p=10∨p=7∨p=8∨p=1∨p=4∨p=5:=by omega
 rcases hp with rfl|rfl|rfl|rfl|rfl|rfl|rfl|rfl|rfl|rfl
 ·go_enter Tryz.func37,Tryz.ntmps37
  go_wp2_with fail
  go_ret
  exact ⟨rfl,Below.refl _ _⟩
 ·go_enter Tryz.func37,Tryz.ntmps37
  go_wp2_with fail
  go_ret
  exact ⟨rfl,Below.refl _ _⟩
 ·go_enter Tryz.func37,Tryz.ntmps37
  go_wp2_with fail
  go_ret
  exact ⟨rfl,Below.refl _ _⟩
 ·go_enter Tryz.func37,Tryz.ntmps37
  go_wp2_with fail
  go_ret
  exact ⟨rfl,Below.refl _ _⟩
 ·go_enter Tryz.func37,Tryz.ntmps37
  go_wp2_with fail
  go_ret
  exact ⟨rfl,Below.refl _ _⟩
 ·go_enter Tryz.func37,Tryz.ntmps37
  go_wp2_with fail
  go_ret
  exact ⟨by show _=Ending.returned (.int .i64 ((ws.map (·.data.toList)).length:Nat));rw [List.length_map];rfl,Below.refl _ _⟩
 ·go_enter Tryz.func37,Tryz.ntmps37
  go_wp2_with fail
  go_ret
  exact ⟨by show _=Ending.returned (.int .i64 ((ws.map (·.data.toList)).length:Nat));rw [List.length_map];rfl,Below.refl _ _⟩
 ·cases ws with
  | nil =>
   go_enter Tryz.func37,Tryz.ntmps37
   go_wp2_with fail
   go_ret
   exact ⟨rfl,Below.refl _ _⟩
  | cons x ws =>
   have hx:=HC.out 0 x rfl
   rw [Nat.add_zero] at hx
   have hl:¬ ((x::ws).length:Int)=0:=by simp only [List.length_cons];omega
   have hl0:(0:Int)<((x::ws).length:Int):=by simp only [List.length_cons];omega
   cases hq:hasPrefix x.data.toList [64] with
   | true =>
    go_enter Tryz.func37,Tryz.ntmps37
    go_wp2_with (go_at_call 66;refine (Tryz.strings_HasPrefix _ _ _).mono ?_;rintro e w1 ⟨rfl,rfl⟩;rw [hq])
    go_ret
    exact ⟨by rw [span_sign,hq];rfl,Below.refl _ _⟩
   | false =>
    go_enter Tryz.func37,Tryz.ntmps37
    go_wp2_with (go_at_call 66;refine (Tryz.strings_HasPrefix _ _ _).mono ?_;rintro e w1 ⟨rfl,rfl⟩;rw [hq])
    go_ret
    exact ⟨by rw [span_sign,hq];rfl,Below.refl _ _⟩
 ·cases ws with
  | nil =>
   go_enter Tryz.func37,Tryz.ntmps37
   go_wp2_with fail
   go_ret
   exact ⟨rfl,Below.refl _ _⟩
  | cons x ws =>
   have hx:=HC.out 0 x rfl
   rw [Nat.add_zero] at hx
   have hl:¬ ((x::ws).length:Int)=0:=by simp only [List.length_cons];omega
   have hl0:(0:Int)<((x::ws).length:Int):=by simp only [List.length_cons];omega
   by_cases hq:x.data.toList=[105,102]
   ·have hq2:(x.toList==[105,102])=true:=by rw [toList_data,hq];rfl
    have HQ:=hid hq
    clear hq
    go_enter Tryz.func37,Tryz.ntmps37
    go_wp2_with fail
    go_ret
    refine ⟨?_,Below.refl _ _⟩
    have e:spanP ((x::ws).map (·.data.toList)) 4=2:=by
     show (if (some x.data.toList)=some [105,102] then 2 else 0)=2
     rw [HQ.out,if_pos rfl]
    rw [e];rfl
   ·have hq2:(x.toList==[105,102])=false:=by rw [toList_data];exact beq_eq_false_iff_ne.2 hq
    have HQ:=hid hq
    clear hq
    go_enter Tryz.func37,Tryz.ntmps37
    go_wp2_with fail
    go_ret
    refine ⟨?_,Below.refl _ _⟩
    have e:spanP ((x::ws).map (·.data.toList)) 4=0:=by
     show (if (some x.data.toList)=some [105,102] then 2 else 0)=0
     rw [if_neg]
     intro q
     exact HQ.out (Option.some.inj q)
    rw [e];rfl
 ·have HI:=hid (idx_span ws)
  have HS:Hid (Calls Tryz.prog 65 #[.slice (some ⟨b,o,none⟩) ws.length c,.string ⟨#[63]⟩] w fun e w'=>e=.returned (.int .i64 (idxOfS ws ⟨#[63]⟩))∧w'=w):=hid (by
   have h:=Tryz.slices_Index_string b o ws.length c ws ⟨#[63]⟩ w (Nat.le_refl _) (by omega) (fun j hj=>by
    refine HC.out j _ ?_
    simp [List.getD,hj])
   rw [List.take_length] at h
   exact h)
  by_cases hm:[63]∈ws.map (·.data.toList)
  ·have hi:=HI.out
   rw [if_pos hm] at hi
   have HI2:=hid hi
   have hge:(0:Int)≤(spanP (ws.map (·.data.toList)) 5:Int):=by omega
   clear hi hm
   go_enter Tryz.func37,Tryz.ntmps37
   go_wp2_with (go_at_call 65;refine HS.out.mono ?_;rintro e w1 ⟨rfl,rfl⟩;rw [HI2.out])
   go_ret
   exact ⟨rfl,Below.refl _ _⟩
  ·have hi:=HI.out
   rw [if_neg hm] at hi
   have HI2:=hid hi
   have HM:=hid (while_all hm)
   clear hi hm
   go_enter Tryz.func37,Tryz.ntmps37
   go_wp2_with (go_at_call 65;refine HS.out.mono ?_;rintro e w1 ⟨rfl,rfl⟩;rw [HI2.out])
   go_ret
   refine ⟨?_,Below.refl _ _⟩
   have e:spanP (ws.map (·.data.toList)) 5=ws.length:=by
    show ((ws.map (·.data.toList)).takeWhile fun x=>decide (x≠[63])).length=_
    rw [HM.out,List.length_map]
   rw [e];rfl
end
end
section
open Go.RowKit Go.Lib
theorem WordsAt.drop {w:World} {b o c:Nat} {ws:List ByteArray} (h:WordsAt w (.slice (some ⟨b,o,none⟩) ws.length c) ws) (n:Nat) (hn:n≤ws.length):WordsAt w (.slice (some ⟨b,o+n,none⟩) (ws.drop n).length (c-n)) (ws.drop n):=by
 obtain ⟨b',o',c',h1,h2,h3,h4⟩:=h
 injection h1 with a1 a2 a3
 injection a1 with a1
 injection a1 with q1 q2
 subst q1 q2 a3
 refine ⟨b,o+n,c-n,rfl,by rw [List.length_drop];omega,h3,fun j x hx=>?_⟩
 rw [List.getElem?_drop] at hx
 have:=h4 (n+j) x hx
 rwa [←Nat.add_assoc] at this
theorem WordsAt.take {w:World} {b o c:Nat} {ws:List ByteArray} (h:WordsAt w (.slice (some ⟨b,o,none⟩) ws.length c) ws) (n:Nat) (hn:n≤ws.length):WordsAt w (.slice (some ⟨b,o,none⟩) n c) (ws.take n):=by
 obtain ⟨b',o',c',h1,h2,h3,h4⟩:=h
 injection h1 with a1 a2 a3
 injection a1 with a1
 injection a1 with q1 q2
 subst q1 q2 a3
 have hl:(ws.take n).length=n:=by rw [List.length_take];omega
 refine ⟨b,o,c,by rw [hl],by rw [hl];omega,h3,fun j x hx=>?_⟩
 have hj:j<n:=by have:=(List.getElem?_eq_some_iff.1 hx).1;omega
 rw [List.getElem?_take_of_lt hj] at hx
 exact h4 j x hx
theorem split_blank:∀(k:Nat) (l:List UInt8),l.length≤k→Lib.split l [32]=splitL l
 | k,l,hk=>by
  have h1:=index_one l 32
  rcases ix_cases l 32 with ⟨h,_⟩|⟨i,h,hi,_⟩
  ·rw [splitL_no h]
   rw [h] at h1
   unfold Lib.split
   rw [count_miss h1]
   rfl
  ·rw [splitL_yes h]
   rw [h] at h1
   unfold Lib.split
   rw [count_hit (by decide) h1,Nat.add_comm]
   have hne:¬ (Lib.index l [32] == -1)=true:=by rw [h1];simp
   rw [splitK,if_neg hne,h1]
   simp only [Int.toNat_natCast,Nat.add_zero,List.length_cons,List.length_nil,Nat.zero_add]
   cases k with
   | zero=>omega
   | succ k =>
    rw [←split_blank k (l.drop (i+1)) (by rw [List.length_drop];omega)]
    rfl
theorem split_len (l:List UInt8):(Lib.split l [32]).length≤l.length+1:=by
 rw [split_blank _ l (Nat.le_refl _)];exact splitL_len l
def textO (l:List UInt8):Option En:=if []∈splitL l then none else entryO (splitL l)
theorem textO_no {l:List UInt8} {y:En} (h:(∃x∈splitL l,x=[])∨entryO (splitL l)=none):textO l=if false=true then some y else none:=by
 unfold textO
 rcases h with ⟨x,hx,rfl⟩|h
 ·rw [if_pos hx];rfl
 ·rw [h];split<;>rfl
def EnPost (w:World) (text:ByteArray) (e:Ending) (w':World):Prop :=
 (∃(y:Ex) (ok:Bool),e=.returned (.tuple #[aggEx y,.bool ok])∧(ok=true→OwnQ w.heap.size y w')∧textO text.data.toList=if ok=true then some y.en else none)∧Below w.heap.size w w'
def zeroEx (k:Int):Ex:=⟨k,⟨#[]⟩,⟨#[]⟩,⟨#[]⟩,0,none,0,[],none,0,[],none,0,[],0,0⟩
theorem zero_own (n:Nat) (w:World) (k:Int) (h0:-9223372036854775808≤k) (h1:k≤9223372036854775807):OwnQ n (zeroEx k) w:=by
 have z:(0:Nat)≤maxLen:=Nat.zero_le _
 have fm:FitM []:=fitM_may (by decide)
 have fe:FitE []:=fitE_may (by decide)
 exact ⟨⟨⟨rfl,.inl ⟨rfl,rfl⟩⟩,fun x hx=>by cases hx⟩,⟨z,fun x hx=>by cases hx⟩,⟨rfl,.inl ⟨rfl,rfl⟩⟩,fe,⟨rfl,.inl ⟨rfl,rfl⟩⟩,fm,
  ⟨z,z,z,h0,h1,by show (-9223372036854775808:Int)≤0;omega,by show (0:Int)≤9223372036854775807;omega,by show (0:Int)≤0;omega,by show (0:Int)≤18446744073709551615;omega,by show (-9223372036854775808:Int)≤0;omega,by show (0:Int)≤9223372036854775807;omega⟩⟩
theorem out_ten {w WZ:World} {R:Nat} {T:TypeId} {c0 c1 c2 c3 c4 c5 c6 c7 c8 c9:Value} (hb:w.heap[R]? = some (.cells #[c0,c1,c2,c3,c4,c5,c6,c7,c8,c9] T (0,0))) (a0 a1 a2 a3 a4 a5 a6 a7 a8 a9:Value)
  (h:((((((((((w.setCell ⟨R,0,none⟩ a0).setCell ⟨R,1,none⟩ a1).setCell ⟨R,2,none⟩ a2).setCell ⟨R,3,none⟩ a3).setCell ⟨R,4,none⟩ a4).setCell ⟨R,5,none⟩ a5).setCell ⟨R,6,none⟩ a6).setCell ⟨R,7,none⟩ a7).setCell ⟨R,8,none⟩ a8).setCell ⟨R,9,none⟩ a9)=WZ) :
  WZ.heap[R]? = some (.cells #[a0,a1,a2,a3,a4,a5,a6,a7,a8,a9] T (0,0))∧Fr (fun b=>b=R) w WZ:=by
 subst h
 refine ⟨?_,?_⟩
 ·have b0:(w.setCell ⟨R,0,none⟩ a0).heap[R]? = some (.cells #[a0,c1,c2,c3,c4,c5,c6,c7,c8,c9] T (0,0)):=heap_setCell_same _ R 0 _ _ a0 hb
  have b1:((w.setCell ⟨R,0,none⟩ a0).setCell ⟨R,1,none⟩ a1).heap[R]? = some (.cells #[a0,a1,c2,c3,c4,c5,c6,c7,c8,c9] T (0,0)):=heap_setCell_same _ R 1 _ _ a1 b0
  have b2:(((w.setCell ⟨R,0,none⟩ a0).setCell ⟨R,1,none⟩ a1).setCell ⟨R,2,none⟩ a2).heap[R]? = some (.cells #[a0,a1,a2,c3,c4,c5,c6,c7,c8,c9] T (0,0)):=heap_setCell_same _ R 2 _ _ a2 b1
  have b3:((((w.setCell ⟨R,0,none⟩ a0).setCell ⟨R,1,none⟩ a1).setCell ⟨R,2,none⟩ a2).setCell ⟨R,3,none⟩ a3).heap[R]? = some (.cells #[a0,a1,a2,a3,c4,c5,c6,c7,c8,c9] T (0,0)):=heap_setCell_same _ R 3 _ _ a3 b2
  have b4:(((((w.setCell ⟨R,0,none⟩ a0).setCell ⟨R,1,none⟩ a1).setCell ⟨R,2,none⟩ a2).setCell ⟨R,3,none⟩ a3).setCell ⟨R,4,none⟩ a4).heap[R]? = some (.cells #[a0,a1,a2,a3,a4,c5,c6,c7,c8,c9] T (0,0)):=heap_setCell_same _ R 4 _ _ a4 b3
  have b5:((((((w.setCell ⟨R,0,none⟩ a0).setCell ⟨R,1,none⟩ a1).setCell ⟨R,2,none⟩ a2).setCell ⟨R,3,none⟩ a3).setCell ⟨R,4,none⟩ a4).setCell ⟨R,5,none⟩ a5).heap[R]? = some (.cells #[a0,a1,a2,a3,a4,a5,c6,c7,c8,c9] T (0,0)):=heap_setCell_same _ R 5 _ _ a5 b4
  have b6:(((((((w.setCell ⟨R,0,none⟩ a0).setCell ⟨R,1,none⟩ a1).setCell ⟨R,2,none⟩ a2).setCell ⟨R,3,none⟩ a3).setCell ⟨R,4,none⟩ a4).setCell ⟨R,5,none⟩ a5).setCell ⟨R,6,none⟩ a6).heap[R]? = some (.cells #[a0,a1,a2,a3,a4,a5,a6,c7,c8,c9] T (0,0)):=heap_setCell_same _ R 6 _ _ a6 b5
  have b7:((((((((w.setCell ⟨R,0,none⟩ a0).setCell ⟨R,1,none⟩ a1).setCell ⟨R,2,none⟩ a2).setCell ⟨R,3,none⟩ a3).setCell ⟨R,4,none⟩ a4).setCell ⟨R,5,none⟩ a5).setCell ⟨R,6,none⟩ a6).setCell ⟨R,7,none⟩ a7).heap[R]? = some (.cells #[a0,a1,a2,a3,a4,a5,a6,a7,c8,c9] T (0,0)):=heap_setCell_same _ R 7 _ _ a7 b6
  have b8:(((((((((w.setCell ⟨R,0,none⟩ a0).setCell ⟨R,1,none⟩ a1).setCell ⟨R,2,none⟩ a2).setCell ⟨R,3,none⟩ a3).setCell ⟨R,4,none⟩ a4).setCell ⟨R,5,none⟩ a5).setCell ⟨R,6,none⟩ a6).setCell ⟨R,7,none⟩ a7).setCell ⟨R,8,none⟩ a8).heap[R]? = some (.cells #[a0,a1,a2,a3,a4,a5,a6,a7,a8,c9] T (0,0)):=heap_setCell_same _ R 8 _ _ a8 b7
  have b9:((((((((((w.setCell ⟨R,0,none⟩ a0).setCell ⟨R,1,none⟩ a1).setCell ⟨R,2,none⟩ a2).setCell ⟨R,3,none⟩ a3).setCell ⟨R,4,none⟩ a4).setCell ⟨R,5,none⟩ a5).setCell ⟨R,6,none⟩ a6).setCell ⟨R,7,none⟩ a7).setCell ⟨R,8,none⟩ a8).setCell ⟨R,9,none⟩ a9).heap[R]? = some (.cells #[a0,a1,a2,a3,a4,a5,a6,a7,a8,a9] T (0,0)):=heap_setCell_same _ R 9 _ _ a9 b8
  exact b9
 ·have t:∀{u v z:World},Fr (fun b=>b=R) u v→Fr (fun b=>b=R) v z→Fr (fun b=>b=R) u z:=fun f g=>f.then g fun _ h=>Or.inl h
  exact t (t (t (t (t (t (t (t (t (fr_setE _ R 0 _) (fr_setE _ R 1 _)) (fr_setE _ R 2 _)) (fr_setE _ R 3 _)) (fr_setE _ R 4 _)) (fr_setE _ R 5 _)) (fr_setE _ R 6 _)) (fr_setE _ R 7 _)) (fr_setE _ R 8 _)) (fr_setE _ R 9 _)
theorem split_words (s:ByteArray) (w:World) (hs:s.size≤4294967000) (hv:OpVars w) :
  ∃ws:List ByteArray,ws.map (·.data.toList)=Lib.split s.data.toList [32]∧0<ws.length ∧
   Calls Tryz.prog 33 #[.string s,.string ⟨#[32]⟩] w fun e w'=>e=.returned (.slice (some ⟨w.heap.size,0,none⟩) ws.length ws.length)∧w'=w.alloc (.cells (ws.map Value.string).toArray 9):=by
 obtain ⟨m,hm⟩:=hv.max
 have hl:=splitB_all ⟨#[32]⟩ (by decide) 0 _ s rfl
 refine ⟨splitB ⟨#[32]⟩ 0 (countB s ⟨#[32]⟩) s,?_,by omega,?_⟩
 ·rw [splitB_data];rfl
 ·have h:=Tryz.strings_Split s ⟨#[32]⟩ m w (by omega) hm (by decide)
  rw [←hl] at h
  exact h
def zeroB:Array Value:=#[.int .i64 0,.string ⟨#[]⟩,.string ⟨#[]⟩,.string ⟨#[]⟩,.int .i64 0,.slice none 0 0,.slice none 0 0,.slice none 0 0,.int .u64 0,.int .i64 0]
structure SpSt (w:World) (ws:List ByteArray) (w1:World):Prop where
 low:Below w.heap.size w w1
 res:w1.heap[w.heap.size]? = some (.cells (encEx (zeroEx 0)).toArray 42 (0,0))
 words:WordsAt w1 (.slice (some ⟨w.heap.size+1,0,none⟩) ws.length ws.length) ws
 vars:OpVars w1
 room:w.heap.size+1<w1.heap.size
theorem split_st (s:ByteArray) (w:World) (hs:s.size≤4294967000) (hv:OpVars w) :
  ∃ws:List ByteArray,ws.map (·.data.toList)=Lib.split s.data.toList [32]∧0<ws.length ∧
   Calls Tryz.prog 33 #[.string s,.string ⟨#[32]⟩] (w.alloc (.cells zeroB 42)) fun e w'=>e=.returned (.slice (some ⟨w.heap.size+1,0,none⟩) ws.length ws.length)∧SpSt w ws w':=by
 have hb0:=(Below.refl w.heap.size w).alloc (Nat.le_refl _) (.cells zeroB 42)
 have hv0:=hv.on hb0
 obtain ⟨ws,hws,hpos,hsp⟩:=split_words s _ hs hv0
 have hsz:(w.alloc (.cells zeroB 42)).heap.size=w.heap.size+1:=Array.size_push ..
 refine ⟨ws,hws,hpos,hsp.mono ?_⟩
 rintro e w1 ⟨rfl,rfl⟩
 refine ⟨by rw [hsz],?_⟩
 have hb1:=(Below.refl (w.alloc (.cells zeroB 42)).heap.size (w.alloc (.cells zeroB 42))).alloc (Nat.le_refl _) (.cells (ws.map Value.string).toArray 9)
 have hsz2:((w.alloc (.cells zeroB 42)).alloc (.cells (ws.map Value.string).toArray 9)).heap.size=w.heap.size+2:=by rw [←Nat.add_assoc w.heap.size 1 1,←hsz];exact Array.size_push ..
 refine ⟨hb0.trans (hb1.mono (by rw [hsz];omega)),?_,?_,hv0.on hb1,by rw [hsz2];omega⟩
 ·rw [hb1.block w.heap.size (by rw [hsz];omega)]
  exact Array.getElem?_push_size
 ·refine ⟨_,_,_,rfl,Nat.le_refl _,by rw [hsz2];omega,fun j x hx=>?_⟩
  have hh:((w.alloc (.cells zeroB 42)).alloc (.cells (ws.map Value.string).toArray 9)).heap[w.heap.size+1]? = some (.cells (ws.map Value.string).toArray 9 (0,0)):=by rw [←hsz];exact Array.getElem?_push_size
  rw [cell_of_row _ _ _ _ _ _ hh]
  simp [hx]
theorem contains_any (w:World) (b o c:Nat) (ws:List ByteArray) (x:ByteArray) (hw:WordsAt w (.slice (some ⟨b,o,none⟩) ws.length c) ws) (hn:ws.length≤4294967001) :
  Calls Tryz.prog 34 #[.slice (some ⟨b,o,none⟩) ws.length c,.string x] w fun e w'=>e=.returned (.bool (containsS ws x))∧w'=w:=by
 obtain ⟨b',o',c',h1,h2,h3,h4⟩:=hw
 injection h1 with a1 a2 a3
 injection a1 with a1
 injection a1 with q1 q2
 subst q1 q2 a3
 have h:=Tryz.slices_Contains_string b o ws.length c ws x w (Nat.le_refl _) (by omega) (fun j hj=>by
  refine h4 j _ ?_
  simp [List.getD,hj])
 rw [List.take_length] at h
 exact h
theorem shape_any (k:Nat) (w:World) (h2:k≤12) :
  Calls Tryz.prog 36 #[.int .i64 k] w fun e w'=>(∃a n,e=.returned (.tuple #[.string ⟨(nameN k).toArray⟩,.slice a n n])∧n=(shapeN k).length ∧
   ∀(j p:Nat),(shapeN k)[j]? = some p→∃P,a=some ⟨P,0,none⟩∧w.heap.size≤P∧w'.cell? ⟨P,j,none⟩=some (.int .i64 p))∧Below w.heap.size w w':=by
 by_cases h0:k=0
 ·subst h0
  refine (shape_no 0 w (by omega)).mono ?_
  rintro e w' ⟨rfl,rfl⟩
  exact ⟨⟨none,0,rfl,rfl,fun j p h=>by cases h⟩,Below.refl _ _⟩
 ·refine (shape_yes k w (by omega) h2).mono ?_
  rintro e w' ⟨rfl,rfl⟩
  refine ⟨⟨_,_,rfl,rfl,fun j p h=>⟨_,rfl,Nat.le_refl _,?_⟩⟩,(Below.refl _ _).alloc (Nat.le_refl _) _⟩
  have hh:(w.alloc (.cells (partsC k) 77)).heap[w.heap.size]? = some (.cells (partsC k) 77 (0,0)):=Array.getElem?_push_size
  rw [cell_of_row _ _ _ _ _ _ hh]
  simp [partsC,h]
structure LpSt (w:World) (G:Nat) (y:Ex) (o1:Nat) (us:List ByteArray) (wx:World):Prop where
 low:Below w.heap.size w wx
 res:wx.heap[w.heap.size]? = some (.cells (encEx (zeroEx 0)).toArray 42 (0,0))
 words:WordsAt wx (.slice (some ⟨w.heap.size+1,o1,none⟩) us.length us.length) us
 box:BxQ w.heap.size G y wx
 gt:w.heap.size+1<G
theorem LpSt.on {w:World} {G:Nat} {y:Ex} {o1:Nat} {us:List ByteArray} {wx wy:World} (h:LpSt w G y o1 us wx) (hb:Below wx.heap.size wx wy):LpSt w G y o1 us wy :=
 ⟨h.low.trans (hb.mono h.low.size),(hb.block _ (by have:=h.box.lt;have:=h.gt;omega)).trans h.res,h.words.on hb,h.box.on hb,h.gt⟩
theorem WordsAt.fr {w W:World} {b o c:Nat} {ws:List ByteArray} {P:Nat→Prop} (h:WordsAt w (.slice (some ⟨b,o,none⟩) ws.length c) ws) (f:Fr P w W) (hb:¬ P b):WordsAt W (.slice (some ⟨b,o,none⟩) ws.length c) ws:=by
 obtain ⟨b',o',c',h1,h2,h3,h4⟩:=h
 injection h1 with a1 a2 a3
 injection a1 with a1
 injection a1 with q1 q2
 subst q1 q2 a3
 exact ⟨b,o,c,rfl,h2,Nat.lt_of_lt_of_le h3 f.size,fun j x hx=>f.cell (h4 j x hx) hb⟩
theorem LpSt.turn {w:World} {G:Nat} {y z:Ex} {o1:Nat} {us:List ByteArray} {wx wy:World} (h:LpSt w G y o1 us wx) (f:Fr (fun b=>b=G) wx wy) (hb:BxQ w.heap.size G z wy):LpSt w G z o1 us wy :=
 ⟨h.low.trans (f.below (by have:=h.low.size;exact this) fun k hk=>by have:=h.gt;omega),(f.block _ (by have:=h.box.lt;have:=h.gt;omega) (by have:=h.gt;omega)).trans h.res,h.words.fr f (by have:=h.gt;omega),hb,h.gt⟩
theorem words_at {w:World} {b o c:Nat} {ws:List ByteArray} (h:WordsAt w (.slice (some ⟨b,o,none⟩) ws.length c) ws) (j:Nat) (x:ByteArray) (hx:ws[j]? = some x):w.cell? ⟨b,o+j,none⟩=some (.string x):=by
 obtain ⟨b',o',c',h1,h2,h3,h4⟩:=h
 injection h1 with a1 a2 a3
 injection a1 with a1
 injection a1 with q1 q2
 subst q1 q2 a3
 exact h4 j x hx
theorem SpSt.next {w:World} {x0:ByteArray} {us:List ByteArray} {w1 w2:World} (h:SpSt w (x0::us) w1) (hb:Below w1.heap.size w1 w2) (k:Nat) (hk:k≤12) (o1:Nat) (ho:us=[]∨o1=1) :
  LpSt w w2.heap.size (zeroEx k) o1 us (w2.alloc (.cells #[.int .i64 (k:Int),.string ⟨#[]⟩,.string ⟨#[]⟩,.string ⟨#[]⟩,.int .i64 0,.slice none 0 0,.slice none 0 0,.slice none 0 0,.int .u64 0,.int .i64 0] 42)):=by
 have hal:=(Below.refl w2.heap.size w2).alloc (Nat.le_refl _) (.cells #[.int .i64 (k:Int),.string ⟨#[]⟩,.string ⟨#[]⟩,.string ⟨#[]⟩,.int .i64 0,.slice none 0 0,.slice none 0 0,.slice none 0 0,.int .u64 0,.int .i64 0] 42)
 have hl2:Below w.heap.size w w2:=h.low.trans (hb.mono h.low.size)
 have hr1:=h.room
 have hs2:=hb.size
 refine ⟨hl2.trans (hal.mono hl2.size),?_,?_,⟨Array.getElem?_push_size,hl2.size,zero_own _ _ _ (by omega) (by omega)⟩,by omega⟩
 ·rw [hal.block _ (by omega),hb.block _ (by omega)];exact h.res
 ·have hw:=(h.words.on hb).on hal
  rcases ho with rfl|rfl
  ·exact ⟨_,_,_,rfl,Nat.le_refl _,by have:=hal.size;omega,fun j x hx=>by cases hx⟩
  ·refine ⟨_,_,_,rfl,Nat.le_refl _,by have:=hal.size;omega,fun j x hx=>?_⟩
   have:=words_at hw (j+1) x (by simpa using hx)
   rwa [Nat.zero_add,Nat.add_comm j 1] at this
def PtSt (a:Option Addr) (G kw:Nat) (wr:World):Prop:=∀(j p:Nat),(shapeN kw)[j]? = some p→∃P,a=some ⟨P,0,none⟩∧P≠G∧wr.cell? ⟨P,j,none⟩=some (.int .i64 p)
theorem PtSt.on {a:Option Addr} {G kw:Nat} {wr wx:World} (h:PtSt a G kw wr) (hb:Below wr.heap.size wr wx):PtSt a G kw wx:=fun j p hp=>by
 obtain ⟨P,h1,h2,h3⟩:=h j p hp
 exact ⟨P,h1,h2,(hb.cell (p:=⟨P,j,none⟩) (cell_lt h3)).trans h3⟩
theorem PtSt.turn {a:Option Addr} {G kw:Nat} {wr wx:World} (h:PtSt a G kw wr) (f:Fr (fun b=>b=G) wr wx):PtSt a G kw wx:=fun j p hp=>by
 obtain ⟨P,h1,h2,h3⟩:=h j p hp
 exact ⟨P,h1,h2,f.cell h3 h2⟩
theorem shape_part (k i p:Nat) (h:(shapeN k)[i]? = some p):1≤p∧p≤10:=by
 have hm:=List.mem_of_getElem? h
 unfold shapeN at hm
 split at hm<;>simp at hm<;>omega
theorem shape_le (k:Nat):(shapeN k).length≤5:=by
 unfold shapeN
 split<;>simp
def tot (l:List (List UInt8)):Nat:=(l.map fun x=>x.length+1).sum
theorem tot_cons (x:List UInt8) (l:List (List UInt8)):tot (x::l)=x.length+1+tot l:=by simp [tot]
theorem tot_append (a b:List (List UInt8)):tot (a++b)=tot a+tot b:=by simp [tot]
theorem tot_len (l:List (List UInt8)):l.length≤tot l:=by
 induction l with
 | nil=>simp
 | cons x l ih=>rw [tot_cons,List.length_cons];omega
theorem tot_take (l:List (List UInt8)) (n:Nat):tot (l.take n)≤tot l:=by
 have h:=tot_append (l.take n) (l.drop n)
 rw [List.take_append_drop] at h;omega
theorem tot_drop (l:List (List UInt8)) (n:Nat):tot (l.drop n)≤tot l:=by
 have h:=tot_append (l.take n) (l.drop n)
 rw [List.take_append_drop] at h;omega
theorem join_tot:∀l:List (List UInt8),(joinW l).length≤tot l-1
 | []=>by simp [joinW,Lib.join,List.intercalate]
 | [x]=>by rw [joinW_one,tot_cons];omega
 | x::y::l=>by
  have ih:=join_tot (y::l)
  have e:joinW (x::y::l)=x++32::joinW (y::l):=by simp [joinW,Lib.join,List.intercalate]
  rw [e,List.length_append,List.length_cons,tot_cons]
  have:=tot_len (y::l)
  simp only [List.length_cons] at this
  omega
theorem tot_split:∀(k:Nat) (l:List UInt8),l.length≤k→tot (splitL l)=l.length+1
 | k,l,hk=>by
  rcases ix_cases l 32 with ⟨h,_⟩|⟨i,h,hi,_⟩
  ·rw [splitL_no h,tot_cons];simp [tot]
  ·rw [splitL_yes h,tot_cons]
   cases k with
   | zero=>omega
   | succ k =>
    rw [tot_split k (l.drop (i+1)) (by rw [List.length_drop];omega),List.length_take,List.length_drop]
    omega
theorem text_le (vs:List ByteArray) (q n:Nat) (h:tot (vs.map (·.data.toList))≤n) (hn:n≤4294967000):(textW (vs.take q)).size≤4294967000:=by
 have h1:=join_tot ((vs.take q).map (·.data.toList))
 have h2:=tot_take (vs.map (·.data.toList)) q
 rw [←List.map_take] at h2
 have h3:(textW (vs.take q)).size=(joinW ((vs.take q).map (·.data.toList))).length:=rfl
 omega
theorem empty_in {ws:List ByteArray} (h:containsS ws ⟨#[]⟩=true):∃x∈ws.map (·.data.toList),x=[] :=
 ⟨[],List.mem_map.2 ⟨⟨#[]⟩,(containsS_iff _ _).1 h,rfl⟩,rfl⟩
theorem en_no0 {w:World} {ws:List ByteArray} {w1 WZ:World} {s:ByteArray} (h:SpSt w ws w1) (f:Fr (fun b=>b=w.heap.size) w1 WZ) (he:∃x∈splitL s.data.toList,x=[]) :
  EnPost w s (.returned (.tuple #[.agg #[.int .i64 0,.string ⟨#[]⟩,.string ⟨#[]⟩,.string ⟨#[]⟩,.int .i64 0,.slice none 0 0,.slice none 0 0,.slice none 0 0,.int .u64 0,.int .i64 0],.bool false])) WZ :=
 ⟨⟨zeroEx 0,false,rfl,fun q=>(by cases q),textO_no (Or.inl he)⟩,h.low.trans (f.below h.low.size fun k hk=>by omega)⟩
theorem en_none {c:Option En} {kw:Nat} {o:Option (En × List (List UInt8))} (h:c=if kw=0 then none else o.bind fun r=>if r.2=[] then some r.1 else none) (ho:o=none):c=none:=by
 rw [h,ho];split<;>rfl
theorem en_no1 {w:World} {G:Nat} {y:Ex} {o:Nat} {us:List ByteArray} {w1 WZ:World} {s:ByteArray} (h:LpSt w G y o us w1) (f:Fr (fun b=>b=w.heap.size) w1 WZ) (he:entryO (splitL s.data.toList)=none) :
  EnPost w s (.returned (.tuple #[.agg #[.int .i64 0,.string ⟨#[]⟩,.string ⟨#[]⟩,.string ⟨#[]⟩,.int .i64 0,.slice none 0 0,.slice none 0 0,.slice none 0 0,.int .u64 0,.int .i64 0],.bool false])) WZ :=
 ⟨⟨zeroEx 0,false,rfl,fun q=>(by cases q),textO_no (Or.inr he)⟩,h.low.trans (f.below h.low.size fun k hk=>by omega)⟩
theorem en_no2 {w:World} {G:Nat} {y:Ex} {o:Nat} {us:List ByteArray} {w1 WZ:World} {s:ByteArray} (h:LpSt w G y o us w1) (f:Fr (fun b=>b=w.heap.size) w1 WZ) (he:entryO (splitL s.data.toList)=none) :
  EnPost w s (.returned (.tuple #[.agg #[.int .i64 y.kind,.string y.temp,.string y.ka,.string y.kb,.int .i64 y.iff,.slice y.vp y.vo.length y.vc,.slice y.ep y.eo.length y.ec,.slice y.pp y.po.length y.pc,.int .u64 y.stamp,.int .i64 y.num],.bool false])) WZ :=
 ⟨⟨y,false,rfl,fun q=>(by cases q),textO_no (Or.inr he)⟩,h.low.trans (f.below h.low.size fun k hk=>by omega)⟩
theorem en_yes {w:World} {G:Nat} {y:Ex} {o:Nat} {us:List ByteArray} {w1 WZ:World} {s:ByteArray} (h:LpSt w G y o us w1) (f:Fr (fun b=>b=w.heap.size) w1 WZ) (hne:[] ∉ splitL s.data.toList) (he:entryO (splitL s.data.toList)=some y.en) :
  EnPost w s (.returned (.tuple #[.agg #[.int .i64 y.kind,.string y.temp,.string y.ka,.string y.kb,.int .i64 y.iff,.slice y.vp y.vo.length y.vc,.slice y.ep y.eo.length y.ec,.slice y.pp y.po.length y.pc,.int .u64 y.stamp,.int .i64 y.num],.bool true])) WZ :=
 ⟨⟨y,true,rfl,fun _=>h.box.own.fr h.res f,by unfold textO;rw [if_neg hne,he];rfl⟩,h.low.trans (f.below h.low.size fun k hk=>by omega)⟩
theorem name_full (k:Nat) (h1:1≤k) (h2:k≤12):(nameN k).isEmpty=false:=by
 have:k=1∨k=2∨k=3∨k=4∨k=5∨k=6∨k=7∨k=8∨k=9∨k=10∨k=11∨k=12:=by omega
 rcases this with rfl|rfl|rfl|rfl|rfl|rfl|rfl|rfl|rfl|rfl|rfl|rfl<;>rfl
set_option maxHeartbeats 4000000 in
theorem opentry_any (s:ByteArray) (w:World) (hs:s.size≤4294967000) (hv:OpVars w) :
  Calls Tryz.prog 17 #[.string s] w fun e w'=>EnPost w s e w':=by
 obtain ⟨ws,hws,hpos,hsp⟩:=split_st s w hs hv
 have HSP:=hid hsp
 have HWS:=hid hws
 have hlen:ws.length≤4294967001:=by
  have h1:=congrArg List.length hws
  rw [List.length_map] at h1
  have h2:=split_len s.data.toList
  have e2:s.data.toList.length=s.size:=rfl
  omega
 have HV:=hid hv
 have HV:=hid hv
 clear hv hsp hws
 go_enter Tryz.func17,Tryz.ntmps17
 go_wp2_with fail
 refine HSP.out.mono ?_
 rintro e w1 ⟨rfl,hst⟩
 have HST:=hid hst
 clear hst
 go_wp2_with fail
 refine (contains_any w1 _ _ _ ws ⟨#[]⟩ HST.out.words hlen).mono ?_
 rintro e w1' ⟨rfl,he⟩
 subst he
 cases hct:containsS ws ⟨#[]⟩ with
 | true =>
  obtain ⟨WZ,hWZ⟩:∃WZ,((((((((((w1'.setCell ⟨w.heap.size,0,none⟩ (.int .i64 0)).setCell ⟨w.heap.size,1,none⟩ (.string ⟨#[]⟩)).setCell ⟨w.heap.size,2,none⟩ (.string ⟨#[]⟩)).setCell ⟨w.heap.size,3,none⟩ (.string ⟨#[]⟩)).setCell ⟨w.heap.size,4,none⟩ (.int .i64 0)).setCell ⟨w.heap.size,5,none⟩ (.slice none 0 0)).setCell ⟨w.heap.size,6,none⟩ (.slice none 0 0)).setCell ⟨w.heap.size,7,none⟩ (.slice none 0 0)).setCell ⟨w.heap.size,8,none⟩ (.int .u64 0)).setCell ⟨w.heap.size,9,none⟩ (.int .i64 0))=WZ:=⟨_,rfl⟩
  obtain ⟨hbz,fz⟩:=out_ten HST.out.res _ _ _ _ _ _ _ _ _ _ hWZ
  have HFIN:Hid (EnPost w s (.returned (.tuple #[.agg #[.int .i64 0,.string ⟨#[]⟩,.string ⟨#[]⟩,.string ⟨#[]⟩,.int .i64 0,.slice none 0 0,.slice none 0 0,.slice none 0 0,.int .u64 0,.int .i64 0],.bool false])) WZ):=hid (en_no0 HST.out fz (by rw [←split_blank _ _ (Nat.le_refl _),←HWS.out];exact empty_in hct))
  have y0:w1'.cell? ⟨w.heap.size,0,none⟩=some (.int .i64 0):=by rw [Lib.cell_of_heap HST.out.res];rfl
  have z0:w1'.frozen? ⟨w.heap.size,0,none⟩=false:=Lib.frozen_of_heap HST.out.res 0
  have y1:w1'.cell? ⟨w.heap.size,1,none⟩=some (.string ⟨#[]⟩):=by rw [Lib.cell_of_heap HST.out.res];rfl
  have z1:w1'.frozen? ⟨w.heap.size,1,none⟩=false:=Lib.frozen_of_heap HST.out.res 1
  have y2:w1'.cell? ⟨w.heap.size,2,none⟩=some (.string ⟨#[]⟩):=by rw [Lib.cell_of_heap HST.out.res];rfl
  have z2:w1'.frozen? ⟨w.heap.size,2,none⟩=false:=Lib.frozen_of_heap HST.out.res 2
  have y3:w1'.cell? ⟨w.heap.size,3,none⟩=some (.string ⟨#[]⟩):=by rw [Lib.cell_of_heap HST.out.res];rfl
  have z3:w1'.frozen? ⟨w.heap.size,3,none⟩=false:=Lib.frozen_of_heap HST.out.res 3
  have y4:w1'.cell? ⟨w.heap.size,4,none⟩=some (.int .i64 0):=by rw [Lib.cell_of_heap HST.out.res];rfl
  have z4:w1'.frozen? ⟨w.heap.size,4,none⟩=false:=Lib.frozen_of_heap HST.out.res 4
  have y5:w1'.cell? ⟨w.heap.size,5,none⟩=some (.slice none 0 0):=by rw [Lib.cell_of_heap HST.out.res];rfl
  have z5:w1'.frozen? ⟨w.heap.size,5,none⟩=false:=Lib.frozen_of_heap HST.out.res 5
  have y6:w1'.cell? ⟨w.heap.size,6,none⟩=some (.slice none 0 0):=by rw [Lib.cell_of_heap HST.out.res];rfl
  have z6:w1'.frozen? ⟨w.heap.size,6,none⟩=false:=Lib.frozen_of_heap HST.out.res 6
  have y7:w1'.cell? ⟨w.heap.size,7,none⟩=some (.slice none 0 0):=by rw [Lib.cell_of_heap HST.out.res];rfl
  have z7:w1'.frozen? ⟨w.heap.size,7,none⟩=false:=Lib.frozen_of_heap HST.out.res 7
  have y8:w1'.cell? ⟨w.heap.size,8,none⟩=some (.int .u64 0):=by rw [Lib.cell_of_heap HST.out.res];rfl
  have z8:w1'.frozen? ⟨w.heap.size,8,none⟩=false:=Lib.frozen_of_heap HST.out.res 8
  have y9:w1'.cell? ⟨w.heap.size,9,none⟩=some (.int .i64 0):=by rw [Lib.cell_of_heap HST.out.res];rfl
  have z9:w1'.frozen? ⟨w.heap.size,9,none⟩=false:=Lib.frozen_of_heap HST.out.res 9
  have g0:WZ.cell? ⟨w.heap.size,0,none⟩=some (.int .i64 0):=cz hbz
  have g1:WZ.cell? ⟨w.heap.size,1,none⟩=some (.string ⟨#[]⟩):=cz hbz
  have g2:WZ.cell? ⟨w.heap.size,2,none⟩=some (.string ⟨#[]⟩):=cz hbz
  have g3:WZ.cell? ⟨w.heap.size,3,none⟩=some (.string ⟨#[]⟩):=cz hbz
  have g4:WZ.cell? ⟨w.heap.size,4,none⟩=some (.int .i64 0):=cz hbz
  have g5:WZ.cell? ⟨w.heap.size,5,none⟩=some (.slice none 0 0):=cz hbz
  have g6:WZ.cell? ⟨w.heap.size,6,none⟩=some (.slice none 0 0):=cz hbz
  have g7:WZ.cell? ⟨w.heap.size,7,none⟩=some (.slice none 0 0):=cz hbz
  have g8:WZ.cell? ⟨w.heap.size,8,none⟩=some (.int .u64 0):=cz hbz
  have g9:WZ.cell? ⟨w.heap.size,9,none⟩=some (.int .i64 0):=cz hbz
  clear hbz fz
  go_wp2_with fail
  try rw [hWZ]
  exact bodyPost_ret (v:=.tuple #[.agg #[.int .i64 0,.string ⟨#[]⟩,.string ⟨#[]⟩,.string ⟨#[]⟩,.int .i64 0,.slice none 0 0,.slice none 0 0,.slice none 0 0,.int .u64 0,.int .i64 0],.bool false]) (by simp [results,Tryz.results17,go_sem,g0,g1,g2,g3,g4,g5,g6,g7,g8,g9]) rfl HFIN.out
 | false =>
  obtain ⟨x0,us,rfl⟩:∃x0 us,ws=x0::us:=by
   cases ws with
   | nil=>simp at hpos
   | cons a b=>exact ⟨a,b,rfl⟩
  have hx0:=words_at HST.out.words 0 x0 rfl
  rw [Nat.add_zero] at hx0
  have hl0:(0:Int)<((x0::us).length:Int):=by simp only [List.length_cons];omega
  have hl1:(1:Int)≤((x0::us).length:Int):=by simp only [List.length_cons];omega
  go_upto_region 5 with (first|(go_at_call 35;refine (kind_any x0 w1').mono ?_;rintro e w2 ⟨rfl,hb2⟩;have HB2:=hid hb2;clear hb2))
  have hk12:=kindW_le x0.data.toList
  generalize hkw:kindW x0.data.toList=kw at *
  have HEO:Hid (entryO (splitL s.data.toList)=if kw=0 then none else (partsR (shapeN kw) (zeroEn kw) (us.map (·.data.toList))).bind fun r=>if r.2=[] then some r.1 else none):=hid (by
   rw [←split_blank _ _ (Nat.le_refl _),←HWS.out,List.map_cons,entryO,hkw])
  have HNE:Hid ([] ∉ splitL s.data.toList):=hid (by
   rw [←split_blank _ _ (Nat.le_refl _),←HWS.out]
   intro h
   obtain ⟨x,hx,he⟩:=List.mem_map.1 h
   have hx2:x=⟨#[]⟩:=ba_nil he
   have:=(containsS_iff (x0::us) ⟨#[]⟩).2 (by rw [←hx2];exact hx)
   rw [hct] at this;cases this)
  have HTOT:Hid (tot (us.map (·.data.toList))≤s.size):=hid (by
   have h:=tot_split _ s.data.toList (Nat.le_refl _)
   rw [←split_blank _ _ (Nat.le_refl _),←HWS.out,List.map_cons,tot_cons] at h
   have e2:s.data.toList.length=s.size:=rfl
   omega)
  clear hkw
  go_cut [2,4,5] from 11 (fun v2 v4 v5 wx=>∃G o1,v2=.pointer (some ⟨w.heap.size,0,none⟩)∧v4=.slice (some ⟨w.heap.size+1,o1,none⟩) us.length us.length∧v5=.pointer (some ⟨G,0,none⟩)∧Hid (LpSt w G (zeroEx kw) o1 us wx))
  case first =>
   by_cases hu:us=[]
   ·have HS:=hid (HST.out.next HB2.out kw hk12 0 (Or.inl hu))
    subst hu
    go_wp2_with fail
    go_meet
    case rel=>exact ⟨_,_,rfl,rfl,rfl,HS.out⟩
   ·have HS:=hid (HST.out.next HB2.out kw hk12 1 (Or.inr rfl))
    have hun:¬ us.length=0:=fun q=>hu (List.eq_nil_of_length_eq_zero q)
    go_wp2_with fail
    go_meet
    case rel=>exact ⟨_,_,rfl,rfl,rfl,HS.out⟩
  case rest =>
  obtain ⟨G,o1,rfl,rfl,rfl,HS⟩:=hcut
  clear HB2 HST hx0 HSP
  have hc0:=HS.out.box.cell 0 _ rfl
  go_wp2_with fail
  refine (shape_any kw _ hk12).mono ?_
  rintro e w3 ⟨⟨a,n,rfl,hn,hpt⟩,hb3⟩
  have HN:=hid hn
  have HS3:=hid (HS.out.on hb3)
  have HPT:Hid (PtSt a G kw w3):=hid fun j p hp=>by
   obtain ⟨P,h1,h2,h3⟩:=hpt j p hp
   exact ⟨P,h1,by have:=HS.out.box.lt;omega,h3⟩
  clear hn hpt hb3 HS hc0
  go_wp2_with fail
  go_loopg [4,31] n (fun g v4 vi wr=>∃(i o:Nat) (vs:List ByteArray) (y:Ex),v4=.slice (some ⟨w.heap.size+1,o,none⟩) vs.length vs.length∧vi=.int .i64 i∧i≤n∧n-i≤g∧Hid (LpSt w G y o vs wr)∧Hid (PtSt a G kw wr)∧Hid (partsR (shapeN kw) (zeroEn kw) (us.map (·.data.toList))=partsR ((shapeN kw).drop i) y.en (vs.map (·.data.toList)))∧Hid (tot (vs.map (·.data.toList))≤s.size))
  case atStart=>exact ⟨0,o1,us,zeroEx kw,rfl,rfl,by omega,by omega,HS3,HPT,hid rfl,HTOT⟩
  case round =>
   obtain ⟨i,o,vs,y,rfl,rfl,hi,hig,HL,HP,HE,HT⟩:=hrel
   have hvl:vs.length≤4294967000:=by
    have h1:=tot_len (vs.map (·.data.toList))
    have h2:=HT.out
    rw [List.length_map] at h1
    omega
   have hn5:n≤5:=by rw [HN.out];exact shape_le kw
   by_cases hlt:i<n
   ·have HLT:=hid hlt
    have hltz:(i:Int)<(n:Int):=by omega
    have hiz:(0:Int)≤(i:Int):=by omega
    obtain ⟨p,hp⟩:∃p,(shapeN kw)[i]? = some p:=⟨_,List.getElem?_eq_getElem (by rw [←HN.out];exact hlt)⟩
    obtain ⟨P,hPa,hPG,hPc⟩:=HP.out i p hp
    subst hPa
    obtain ⟨hp1,hp10⟩:=shape_part kw i p hp
    have HDR:Hid ((shapeN kw).drop i=p::(shapeN kw).drop (i+1)):=hid (by
     obtain ⟨h1,h2⟩:=List.getElem?_eq_some_iff.1 hp
     rw [←h2];exact List.drop_eq_getElem_cons h1)
    clear hp
    go_wp2_with fail
    refine (opspan_any _ vs wr HL.out.words hvl p hp1 hp10).mono ?_
    rintro e w4 ⟨rfl,hb4⟩
    have HL4:=hid (HL.out.on hb4)
    have HP4:=hid (HP.out.on hb4)
    clear hb4 hPc
    obtain ⟨q,hq⟩:∃q,spanP (vs.map (·.data.toList)) p=q:=⟨_,rfl⟩
    have HQ:=hid hq
    rw [hq]
    clear hq
    by_cases hgt:vs.length<q
    ·have hgz:(vs.length:Int)<(q:Int):=by omega
     obtain ⟨WZ,hWZ⟩:∃WZ,((((((((((w4.setCell ⟨w.heap.size,0,none⟩ (.int .i64 0)).setCell ⟨w.heap.size,1,none⟩ (.string ⟨#[]⟩)).setCell ⟨w.heap.size,2,none⟩ (.string ⟨#[]⟩)).setCell ⟨w.heap.size,3,none⟩ (.string ⟨#[]⟩)).setCell ⟨w.heap.size,4,none⟩ (.int .i64 0)).setCell ⟨w.heap.size,5,none⟩ (.slice none 0 0)).setCell ⟨w.heap.size,6,none⟩ (.slice none 0 0)).setCell ⟨w.heap.size,7,none⟩ (.slice none 0 0)).setCell ⟨w.heap.size,8,none⟩ (.int .u64 0)).setCell ⟨w.heap.size,9,none⟩ (.int .i64 0))=WZ:=⟨_,rfl⟩
     obtain ⟨hbz,fz⟩:=out_ten HL4.out.res _ _ _ _ _ _ _ _ _ _ hWZ
     have HFIN:Hid (EnPost w s (.returned (.tuple #[.agg #[.int .i64 0,.string ⟨#[]⟩,.string ⟨#[]⟩,.string ⟨#[]⟩,.int .i64 0,.slice none 0 0,.slice none 0 0,.slice none 0 0,.int .u64 0,.int .i64 0],.bool false])) WZ):=hid (en_no1 HL4.out fz (en_none HEO.out (by rw [HE.out,HDR.out,partsR,if_pos (by rw [HQ.out,List.length_map];exact hgt)])))
     have y0:w4.cell? ⟨w.heap.size,0,none⟩=some (.int .i64 0):=by rw [Lib.cell_of_heap HL4.out.res];rfl
     have z0:=Lib.frozen_of_heap HL4.out.res 0
     have y1:w4.cell? ⟨w.heap.size,1,none⟩=some (.string ⟨#[]⟩):=by rw [Lib.cell_of_heap HL4.out.res];rfl
     have z1:=Lib.frozen_of_heap HL4.out.res 1
     have y2:w4.cell? ⟨w.heap.size,2,none⟩=some (.string ⟨#[]⟩):=by rw [Lib.cell_of_heap HL4.out.res];rfl
     have z2:=Lib.frozen_of_heap HL4.out.res 2
     have y3:w4.cell? ⟨w.heap.size,3,none⟩=some (.string ⟨#[]⟩):=by rw [Lib.cell_of_heap HL4.out.res];rfl
     have z3:=Lib.frozen_of_heap HL4.out.res 3
     have y4:w4.cell? ⟨w.heap.size,4,none⟩=some (.int .i64 0):=by rw [Lib.cell_of_heap HL4.out.res];rfl
     have z4:=Lib.frozen_of_heap HL4.out.res 4
     have y5:w4.cell? ⟨w.heap.size,5,none⟩=some (.slice none 0 0):=by rw [Lib.cell_of_heap HL4.out.res];rfl
     have z5:=Lib.frozen_of_heap HL4.out.res 5
     have y6:w4.cell? ⟨w.heap.size,6,none⟩=some (.slice none 0 0):=by rw [Lib.cell_of_heap HL4.out.res];rfl
     have z6:=Lib.frozen_of_heap HL4.out.res 6
     have y7:w4.cell? ⟨w.heap.size,7,none⟩=some (.slice none 0 0):=by rw [Lib.cell_of_heap HL4.out.res];rfl
     have z7:=Lib.frozen_of_heap HL4.out.res 7
     have y8:w4.cell? ⟨w.heap.size,8,none⟩=some (.int .u64 0):=by rw [Lib.cell_of_heap HL4.out.res];rfl
     have z8:=Lib.frozen_of_heap HL4.out.res 8
     have y9:w4.cell? ⟨w.heap.size,9,none⟩=some (.int .i64 0):=by rw [Lib.cell_of_heap HL4.out.res];rfl
     have z9:=Lib.frozen_of_heap HL4.out.res 9
     have g0:WZ.cell? ⟨w.heap.size,0,none⟩=some (.int .i64 0):=cz hbz
     have g1:WZ.cell? ⟨w.heap.size,1,none⟩=some (.string ⟨#[]⟩):=cz hbz
     have g2:WZ.cell? ⟨w.heap.size,2,none⟩=some (.string ⟨#[]⟩):=cz hbz
     have g3:WZ.cell? ⟨w.heap.size,3,none⟩=some (.string ⟨#[]⟩):=cz hbz
     have g4:WZ.cell? ⟨w.heap.size,4,none⟩=some (.int .i64 0):=cz hbz
     have g5:WZ.cell? ⟨w.heap.size,5,none⟩=some (.slice none 0 0):=cz hbz
     have g6:WZ.cell? ⟨w.heap.size,6,none⟩=some (.slice none 0 0):=cz hbz
     have g7:WZ.cell? ⟨w.heap.size,7,none⟩=some (.slice none 0 0):=cz hbz
     have g8:WZ.cell? ⟨w.heap.size,8,none⟩=some (.int .u64 0):=cz hbz
     have g9:WZ.cell? ⟨w.heap.size,9,none⟩=some (.int .i64 0):=cz hbz
     clear hbz fz
     go_wp2_with fail
     try rw [hWZ]
     exact bodyPost_ret (v:=.tuple #[.agg #[.int .i64 0,.string ⟨#[]⟩,.string ⟨#[]⟩,.string ⟨#[]⟩,.int .i64 0,.slice none 0 0,.slice none 0 0,.slice none 0 0,.int .u64 0,.int .i64 0],.bool false]) (by simp [results,Tryz.results17,go_sem,g0,g1,g2,g3,g4,g5,g6,g7,g8,g9]) rfl HFIN.out
    ·have hgz:¬ (vs.length:Int)<(q:Int):=by omega
     have hq0:(0:Int)≤(q:Int):=by omega
     have hqv:(q:Int)≤(vs.length:Int):=by omega
     have hwt:=HL4.out.words.take q (by omega)
     have hsz:(textW (vs.take q)).size≤4294967000:=text_le vs q s.size HT.out hs
     have HRD:Hid (∀V,V=Value.slice (some ⟨w.heap.size+1,o,none⟩) q vs.length→Calls Tryz.prog 38 #[.pointer (some ⟨G,0,none⟩),.int .i64 p,V] w4 fun e w'=>RdPost w.heap.size G y p (vs.take q) w4 e w'):=hid fun V hV=>by
      subst hV
      exact opread_any _ (vs.take q) G w.heap.size y w4 (HV.out.on HL4.out.low) hwt hsz (by rw [List.length_take];omega) HL4.out.box p hp1 hp10
     have HST2:Hid (partsR (shapeN kw) (zeroEn kw) (us.map (·.data.toList))=(readP y.en p (textW (vs.take q)).data.toList).bind fun f=>partsR ((shapeN kw).drop (i+1)) f ((vs.drop q).map (·.data.toList))):=hid (by
      rw [HE.out,HDR.out,partsR,HQ.out,if_neg (by rw [List.length_map];exact hgt),textW_data,List.map_take,List.map_drop])
     clear hwt
     go_wp2_with fail
     refine (HRD.out _ rfl).mono ?_
     rintro e w5 ⟨⟨ok,z,rfl,hbx,hrd⟩,hfr⟩
     have HL5:=hid (HL4.out.turn hfr hbx)
     have HP5:=hid (HP4.out.turn hfr)
     have HRD2:=hid hrd
     clear hfr hbx hrd HRD HL4 HP4 HL HP
     cases ok with
     | false =>
      obtain ⟨WZ,hWZ⟩:∃WZ,((((((((((w5.setCell ⟨w.heap.size,0,none⟩ (.int .i64 0)).setCell ⟨w.heap.size,1,none⟩ (.string ⟨#[]⟩)).setCell ⟨w.heap.size,2,none⟩ (.string ⟨#[]⟩)).setCell ⟨w.heap.size,3,none⟩ (.string ⟨#[]⟩)).setCell ⟨w.heap.size,4,none⟩ (.int .i64 0)).setCell ⟨w.heap.size,5,none⟩ (.slice none 0 0)).setCell ⟨w.heap.size,6,none⟩ (.slice none 0 0)).setCell ⟨w.heap.size,7,none⟩ (.slice none 0 0)).setCell ⟨w.heap.size,8,none⟩ (.int .u64 0)).setCell ⟨w.heap.size,9,none⟩ (.int .i64 0))=WZ:=⟨_,rfl⟩
      obtain ⟨hbz,fz⟩:=out_ten HL5.out.res _ _ _ _ _ _ _ _ _ _ hWZ
      have HFIN:Hid (EnPost w s (.returned (.tuple #[.agg #[.int .i64 0,.string ⟨#[]⟩,.string ⟨#[]⟩,.string ⟨#[]⟩,.int .i64 0,.slice none 0 0,.slice none 0 0,.slice none 0 0,.int .u64 0,.int .i64 0],.bool false])) WZ):=hid (en_no1 HL5.out fz (en_none HEO.out (by rw [HST2.out,HRD2.out];rfl)))
      have y0:w5.cell? ⟨w.heap.size,0,none⟩=some (.int .i64 0):=by rw [Lib.cell_of_heap HL5.out.res];rfl
      have z0:=Lib.frozen_of_heap HL5.out.res 0
      have y1:w5.cell? ⟨w.heap.size,1,none⟩=some (.string ⟨#[]⟩):=by rw [Lib.cell_of_heap HL5.out.res];rfl
      have z1:=Lib.frozen_of_heap HL5.out.res 1
      have y2:w5.cell? ⟨w.heap.size,2,none⟩=some (.string ⟨#[]⟩):=by rw [Lib.cell_of_heap HL5.out.res];rfl
      have z2:=Lib.frozen_of_heap HL5.out.res 2
      have y3:w5.cell? ⟨w.heap.size,3,none⟩=some (.string ⟨#[]⟩):=by rw [Lib.cell_of_heap HL5.out.res];rfl
      have z3:=Lib.frozen_of_heap HL5.out.res 3
      have y4:w5.cell? ⟨w.heap.size,4,none⟩=some (.int .i64 0):=by rw [Lib.cell_of_heap HL5.out.res];rfl
      have z4:=Lib.frozen_of_heap HL5.out.res 4
      have y5:w5.cell? ⟨w.heap.size,5,none⟩=some (.slice none 0 0):=by rw [Lib.cell_of_heap HL5.out.res];rfl
      have z5:=Lib.frozen_of_heap HL5.out.res 5
      have y6:w5.cell? ⟨w.heap.size,6,none⟩=some (.slice none 0 0):=by rw [Lib.cell_of_heap HL5.out.res];rfl
      have z6:=Lib.frozen_of_heap HL5.out.res 6
      have y7:w5.cell? ⟨w.heap.size,7,none⟩=some (.slice none 0 0):=by rw [Lib.cell_of_heap HL5.out.res];rfl
      have z7:=Lib.frozen_of_heap HL5.out.res 7
      have y8:w5.cell? ⟨w.heap.size,8,none⟩=some (.int .u64 0):=by rw [Lib.cell_of_heap HL5.out.res];rfl
      have z8:=Lib.frozen_of_heap HL5.out.res 8
      have y9:w5.cell? ⟨w.heap.size,9,none⟩=some (.int .i64 0):=by rw [Lib.cell_of_heap HL5.out.res];rfl
      have z9:=Lib.frozen_of_heap HL5.out.res 9
      have g0:WZ.cell? ⟨w.heap.size,0,none⟩=some (.int .i64 0):=cz hbz
      have g1:WZ.cell? ⟨w.heap.size,1,none⟩=some (.string ⟨#[]⟩):=cz hbz
      have g2:WZ.cell? ⟨w.heap.size,2,none⟩=some (.string ⟨#[]⟩):=cz hbz
      have g3:WZ.cell? ⟨w.heap.size,3,none⟩=some (.string ⟨#[]⟩):=cz hbz
      have g4:WZ.cell? ⟨w.heap.size,4,none⟩=some (.int .i64 0):=cz hbz
      have g5:WZ.cell? ⟨w.heap.size,5,none⟩=some (.slice none 0 0):=cz hbz
      have g6:WZ.cell? ⟨w.heap.size,6,none⟩=some (.slice none 0 0):=cz hbz
      have g7:WZ.cell? ⟨w.heap.size,7,none⟩=some (.slice none 0 0):=cz hbz
      have g8:WZ.cell? ⟨w.heap.size,8,none⟩=some (.int .u64 0):=cz hbz
      have g9:WZ.cell? ⟨w.heap.size,9,none⟩=some (.int .i64 0):=cz hbz
      clear hbz fz
      go_wp2_with fail
      try rw [hWZ]
      exact bodyPost_ret (v:=.tuple #[.agg #[.int .i64 0,.string ⟨#[]⟩,.string ⟨#[]⟩,.string ⟨#[]⟩,.int .i64 0,.slice none 0 0,.slice none 0 0,.slice none 0 0,.int .u64 0,.int .i64 0],.bool false]) (by simp [results,Tryz.results17,go_sem,g0,g1,g2,g3,g4,g5,g6,g7,g8,g9]) rfl HFIN.out
     | true =>
      have HE5:Hid (partsR (shapeN kw) (zeroEn kw) (us.map (·.data.toList))=partsR ((shapeN kw).drop (i+1)) z.en ((vs.drop q).map (·.data.toList))):=hid (by rw [HST2.out,HRD2.out];rfl)
      have HT5:Hid (tot ((vs.drop q).map (·.data.toList))≤s.size):=hid (by
       have h:=tot_drop (vs.map (·.data.toList)) q
       rw [←List.map_drop] at h
       exact Nat.le_trans h HT.out)
      have HLD:=hid (List.length_drop (i:=q) (l:=vs))
      by_cases hqe:q=vs.length
      ·have HW5:Hid (LpSt w G z o (vs.drop q) w5):=hid (by
        have e:vs.drop q=[]:=by rw [hqe];exact List.drop_length
        rw [e]
        exact ⟨HL5.out.low,HL5.out.res,⟨_,_,_,rfl,Nat.le_refl _,by have:=HL5.out.box.lt;have:=HL5.out.gt;omega,fun j x hx=>by cases hx⟩,HL5.out.box,HL5.out.gt⟩)
       subst hqe
       go_wp2_with fail
       go_roundg (n-(i+1))
       case measure=>omega
       exact ⟨i+1,o,vs.drop vs.length,z,by rw [HLD.out,Nat.sub_self],by go_num,HLT.out,Nat.le_refl _,HW5.out,HP5.out,HE5.out,HT5.out⟩
      ·have HW5:Hid (LpSt w G z (o+q) (vs.drop q) w5):=hid (by
        have h:=HL5.out.words.drop q (by omega)
        refine ⟨HL5.out.low,HL5.out.res,?_,HL5.out.box,HL5.out.gt⟩
        rw [←HLD.out] at h
        exact h)
       have hqe2:¬ vs.length=q:=fun h=>hqe h.symm
       go_wp2_with fail
       go_roundg (n-(i+1))
       case measure=>omega
       exact ⟨i+1,o+q,vs.drop q,z,by rw [HLD.out],by go_num,HLT.out,Nat.le_refl _,HW5.out,HP5.out,HE5.out,HT5.out⟩
   ·have hltz:¬ (i:Int)<(n:Int):=by omega
    have HE6:Hid (partsR (shapeN kw) (zeroEn kw) (us.map (·.data.toList))=some (y.en,vs.map (·.data.toList))):=hid (by
     rw [HE.out,List.drop_eq_nil_of_le (by rw [←HN.out];omega)];rfl)
    have c0:=HL.out.box.cell 0 _ rfl
    have c1:=HL.out.box.cell 1 _ rfl
    have c2:=HL.out.box.cell 2 _ rfl
    have c3:=HL.out.box.cell 3 _ rfl
    have c4:=HL.out.box.cell 4 _ rfl
    have c5:=HL.out.box.cell 5 _ rfl
    have c6:=HL.out.box.cell 6 _ rfl
    have c7:=HL.out.box.cell 7 _ rfl
    have c8:=HL.out.box.cell 8 _ rfl
    have c9:=HL.out.box.cell 9 _ rfl
    simp only [Ex.vs,Ex.es,Ex.ps] at c5 c6 c7
    by_cases hk0:kw=0
    ·subst hk0
     obtain ⟨WZ,hWZ⟩:∃WZ,((((((((((wr.setCell ⟨w.heap.size,0,none⟩ (.int .i64 y.kind)).setCell ⟨w.heap.size,1,none⟩ (.string y.temp)).setCell ⟨w.heap.size,2,none⟩ (.string y.ka)).setCell ⟨w.heap.size,3,none⟩ (.string y.kb)).setCell ⟨w.heap.size,4,none⟩ (.int .i64 y.iff)).setCell ⟨w.heap.size,5,none⟩ (.slice y.vp y.vo.length y.vc)).setCell ⟨w.heap.size,6,none⟩ (.slice y.ep y.eo.length y.ec)).setCell ⟨w.heap.size,7,none⟩ (.slice y.pp y.po.length y.pc)).setCell ⟨w.heap.size,8,none⟩ (.int .u64 y.stamp)).setCell ⟨w.heap.size,9,none⟩ (.int .i64 y.num))=WZ:=⟨_,rfl⟩
     obtain ⟨hbz,fz⟩:=out_ten HL.out.res _ _ _ _ _ _ _ _ _ _ hWZ
     have HFIN:Hid (EnPost w s (.returned (.tuple #[.agg #[.int .i64 y.kind,.string y.temp,.string y.ka,.string y.kb,.int .i64 y.iff,.slice y.vp y.vo.length y.vc,.slice y.ep y.eo.length y.ec,.slice y.pp y.po.length y.pc,.int .u64 y.stamp,.int .i64 y.num],.bool false])) WZ):=hid (en_no2 HL.out fz (by rw [HEO.out,if_pos rfl]))
     have y0:wr.cell? ⟨w.heap.size,0,none⟩=some (.int .i64 0):=by rw [Lib.cell_of_heap HL.out.res];rfl
     have z0:=Lib.frozen_of_heap HL.out.res 0
     have y1:wr.cell? ⟨w.heap.size,1,none⟩=some (.string ⟨#[]⟩):=by rw [Lib.cell_of_heap HL.out.res];rfl
     have z1:=Lib.frozen_of_heap HL.out.res 1
     have y2:wr.cell? ⟨w.heap.size,2,none⟩=some (.string ⟨#[]⟩):=by rw [Lib.cell_of_heap HL.out.res];rfl
     have z2:=Lib.frozen_of_heap HL.out.res 2
     have y3:wr.cell? ⟨w.heap.size,3,none⟩=some (.string ⟨#[]⟩):=by rw [Lib.cell_of_heap HL.out.res];rfl
     have z3:=Lib.frozen_of_heap HL.out.res 3
     have y4:wr.cell? ⟨w.heap.size,4,none⟩=some (.int .i64 0):=by rw [Lib.cell_of_heap HL.out.res];rfl
     have z4:=Lib.frozen_of_heap HL.out.res 4
     have y5:wr.cell? ⟨w.heap.size,5,none⟩=some (.slice none 0 0):=by rw [Lib.cell_of_heap HL.out.res];rfl
     have z5:=Lib.frozen_of_heap HL.out.res 5
     have y6:wr.cell? ⟨w.heap.size,6,none⟩=some (.slice none 0 0):=by rw [Lib.cell_of_heap HL.out.res];rfl
     have z6:=Lib.frozen_of_heap HL.out.res 6
     have y7:wr.cell? ⟨w.heap.size,7,none⟩=some (.slice none 0 0):=by rw [Lib.cell_of_heap HL.out.res];rfl
     have z7:=Lib.frozen_of_heap HL.out.res 7
     have y8:wr.cell? ⟨w.heap.size,8,none⟩=some (.int .u64 0):=by rw [Lib.cell_of_heap HL.out.res];rfl
     have z8:=Lib.frozen_of_heap HL.out.res 8
     have y9:wr.cell? ⟨w.heap.size,9,none⟩=some (.int .i64 0):=by rw [Lib.cell_of_heap HL.out.res];rfl
     have z9:=Lib.frozen_of_heap HL.out.res 9
     have g0:WZ.cell? ⟨w.heap.size,0,none⟩=some (.int .i64 y.kind):=cz hbz
     have g1:WZ.cell? ⟨w.heap.size,1,none⟩=some (.string y.temp):=cz hbz
     have g2:WZ.cell? ⟨w.heap.size,2,none⟩=some (.string y.ka):=cz hbz
     have g3:WZ.cell? ⟨w.heap.size,3,none⟩=some (.string y.kb):=cz hbz
     have g4:WZ.cell? ⟨w.heap.size,4,none⟩=some (.int .i64 y.iff):=cz hbz
     have g5:WZ.cell? ⟨w.heap.size,5,none⟩=some (.slice y.vp y.vo.length y.vc):=cz hbz
     have g6:WZ.cell? ⟨w.heap.size,6,none⟩=some (.slice y.ep y.eo.length y.ec):=cz hbz
     have g7:WZ.cell? ⟨w.heap.size,7,none⟩=some (.slice y.pp y.po.length y.pc):=cz hbz
     have g8:WZ.cell? ⟨w.heap.size,8,none⟩=some (.int .u64 y.stamp):=cz hbz
     have g9:WZ.cell? ⟨w.heap.size,9,none⟩=some (.int .i64 y.num):=cz hbz
     clear hbz fz
     go_wp2_with fail
     try rw [hWZ]
     exact bodyPost_ret (v:=.tuple #[.agg #[.int .i64 y.kind,.string y.temp,.string y.ka,.string y.kb,.int .i64 y.iff,.slice y.vp y.vo.length y.vc,.slice y.ep y.eo.length y.ec,.slice y.pp y.po.length y.pc,.int .u64 y.stamp,.int .i64 y.num],.bool false]) (by simp [results,Tryz.results17,go_sem,g0,g1,g2,g3,g4,g5,g6,g7,g8,g9]) rfl HFIN.out
    ·have hnm:(nameN kw).isEmpty=false:=name_full kw (by omega) hk12
     cases vs with
     | nil =>
      obtain ⟨WZ,hWZ⟩:∃WZ,((((((((((wr.setCell ⟨w.heap.size,0,none⟩ (.int .i64 y.kind)).setCell ⟨w.heap.size,1,none⟩ (.string y.temp)).setCell ⟨w.heap.size,2,none⟩ (.string y.ka)).setCell ⟨w.heap.size,3,none⟩ (.string y.kb)).setCell ⟨w.heap.size,4,none⟩ (.int .i64 y.iff)).setCell ⟨w.heap.size,5,none⟩ (.slice y.vp y.vo.length y.vc)).setCell ⟨w.heap.size,6,none⟩ (.slice y.ep y.eo.length y.ec)).setCell ⟨w.heap.size,7,none⟩ (.slice y.pp y.po.length y.pc)).setCell ⟨w.heap.size,8,none⟩ (.int .u64 y.stamp)).setCell ⟨w.heap.size,9,none⟩ (.int .i64 y.num))=WZ:=⟨_,rfl⟩
      obtain ⟨hbz,fz⟩:=out_ten HL.out.res _ _ _ _ _ _ _ _ _ _ hWZ
      have HFIN:Hid (EnPost w s (.returned (.tuple #[.agg #[.int .i64 y.kind,.string y.temp,.string y.ka,.string y.kb,.int .i64 y.iff,.slice y.vp y.vo.length y.vc,.slice y.ep y.eo.length y.ec,.slice y.pp y.po.length y.pc,.int .u64 y.stamp,.int .i64 y.num],.bool true])) WZ):=hid (en_yes HL.out fz HNE.out (by rw [HEO.out,if_neg hk0,HE6.out];rfl))
      have y0:wr.cell? ⟨w.heap.size,0,none⟩=some (.int .i64 0):=by rw [Lib.cell_of_heap HL.out.res];rfl
      have z0:=Lib.frozen_of_heap HL.out.res 0
      have y1:wr.cell? ⟨w.heap.size,1,none⟩=some (.string ⟨#[]⟩):=by rw [Lib.cell_of_heap HL.out.res];rfl
      have z1:=Lib.frozen_of_heap HL.out.res 1
      have y2:wr.cell? ⟨w.heap.size,2,none⟩=some (.string ⟨#[]⟩):=by rw [Lib.cell_of_heap HL.out.res];rfl
      have z2:=Lib.frozen_of_heap HL.out.res 2
      have y3:wr.cell? ⟨w.heap.size,3,none⟩=some (.string ⟨#[]⟩):=by rw [Lib.cell_of_heap HL.out.res];rfl
      have z3:=Lib.frozen_of_heap HL.out.res 3
      have y4:wr.cell? ⟨w.heap.size,4,none⟩=some (.int .i64 0):=by rw [Lib.cell_of_heap HL.out.res];rfl
      have z4:=Lib.frozen_of_heap HL.out.res 4
      have y5:wr.cell? ⟨w.heap.size,5,none⟩=some (.slice none 0 0):=by rw [Lib.cell_of_heap HL.out.res];rfl
      have z5:=Lib.frozen_of_heap HL.out.res 5
      have y6:wr.cell? ⟨w.heap.size,6,none⟩=some (.slice none 0 0):=by rw [Lib.cell_of_heap HL.out.res];rfl
      have z6:=Lib.frozen_of_heap HL.out.res 6
      have y7:wr.cell? ⟨w.heap.size,7,none⟩=some (.slice none 0 0):=by rw [Lib.cell_of_heap HL.out.res];rfl
      have z7:=Lib.frozen_of_heap HL.out.res 7
      have y8:wr.cell? ⟨w.heap.size,8,none⟩=some (.int .u64 0):=by rw [Lib.cell_of_heap HL.out.res];rfl
      have z8:=Lib.frozen_of_heap HL.out.res 8
      have y9:wr.cell? ⟨w.heap.size,9,none⟩=some (.int .i64 0):=by rw [Lib.cell_of_heap HL.out.res];rfl
      have z9:=Lib.frozen_of_heap HL.out.res 9
      have g0:WZ.cell? ⟨w.heap.size,0,none⟩=some (.int .i64 y.kind):=cz hbz
      have g1:WZ.cell? ⟨w.heap.size,1,none⟩=some (.string y.temp):=cz hbz
      have g2:WZ.cell? ⟨w.heap.size,2,none⟩=some (.string y.ka):=cz hbz
      have g3:WZ.cell? ⟨w.heap.size,3,none⟩=some (.string y.kb):=cz hbz
      have g4:WZ.cell? ⟨w.heap.size,4,none⟩=some (.int .i64 y.iff):=cz hbz
      have g5:WZ.cell? ⟨w.heap.size,5,none⟩=some (.slice y.vp y.vo.length y.vc):=cz hbz
      have g6:WZ.cell? ⟨w.heap.size,6,none⟩=some (.slice y.ep y.eo.length y.ec):=cz hbz
      have g7:WZ.cell? ⟨w.heap.size,7,none⟩=some (.slice y.pp y.po.length y.pc):=cz hbz
      have g8:WZ.cell? ⟨w.heap.size,8,none⟩=some (.int .u64 y.stamp):=cz hbz
      have g9:WZ.cell? ⟨w.heap.size,9,none⟩=some (.int .i64 y.num):=cz hbz
      clear hbz fz
      go_wp2_with fail
      try rw [hWZ]
      exact bodyPost_ret (v:=.tuple #[.agg #[.int .i64 y.kind,.string y.temp,.string y.ka,.string y.kb,.int .i64 y.iff,.slice y.vp y.vo.length y.vc,.slice y.ep y.eo.length y.ec,.slice y.pp y.po.length y.pc,.int .u64 y.stamp,.int .i64 y.num],.bool true]) (by simp [results,Tryz.results17,go_sem,g0,g1,g2,g3,g4,g5,g6,g7,g8,g9]) rfl HFIN.out
     | cons v0 vt =>
      have hv0:¬ ((v0::vt).length:Int)=0:=by simp only [List.length_cons];omega
      have hv1:¬ (vt.length:Int)+1=0:=by omega
      obtain ⟨WZ,hWZ⟩:∃WZ,((((((((((wr.setCell ⟨w.heap.size,0,none⟩ (.int .i64 y.kind)).setCell ⟨w.heap.size,1,none⟩ (.string y.temp)).setCell ⟨w.heap.size,2,none⟩ (.string y.ka)).setCell ⟨w.heap.size,3,none⟩ (.string y.kb)).setCell ⟨w.heap.size,4,none⟩ (.int .i64 y.iff)).setCell ⟨w.heap.size,5,none⟩ (.slice y.vp y.vo.length y.vc)).setCell ⟨w.heap.size,6,none⟩ (.slice y.ep y.eo.length y.ec)).setCell ⟨w.heap.size,7,none⟩ (.slice y.pp y.po.length y.pc)).setCell ⟨w.heap.size,8,none⟩ (.int .u64 y.stamp)).setCell ⟨w.heap.size,9,none⟩ (.int .i64 y.num))=WZ:=⟨_,rfl⟩
      obtain ⟨hbz,fz⟩:=out_ten HL.out.res _ _ _ _ _ _ _ _ _ _ hWZ
      have HFIN:Hid (EnPost w s (.returned (.tuple #[.agg #[.int .i64 y.kind,.string y.temp,.string y.ka,.string y.kb,.int .i64 y.iff,.slice y.vp y.vo.length y.vc,.slice y.ep y.eo.length y.ec,.slice y.pp y.po.length y.pc,.int .u64 y.stamp,.int .i64 y.num],.bool false])) WZ):=hid (en_no2 HL.out fz (by rw [HEO.out,if_neg hk0,HE6.out];rfl))
      have y0:wr.cell? ⟨w.heap.size,0,none⟩=some (.int .i64 0):=by rw [Lib.cell_of_heap HL.out.res];rfl
      have z0:=Lib.frozen_of_heap HL.out.res 0
      have y1:wr.cell? ⟨w.heap.size,1,none⟩=some (.string ⟨#[]⟩):=by rw [Lib.cell_of_heap HL.out.res];rfl
      have z1:=Lib.frozen_of_heap HL.out.res 1
      have y2:wr.cell? ⟨w.heap.size,2,none⟩=some (.string ⟨#[]⟩):=by rw [Lib.cell_of_heap HL.out.res];rfl
      have z2:=Lib.frozen_of_heap HL.out.res 2
      have y3:wr.cell? ⟨w.heap.size,3,none⟩=some (.string ⟨#[]⟩):=by rw [Lib.cell_of_heap HL.out.res];rfl
      have z3:=Lib.frozen_of_heap HL.out.res 3
      have y4:wr.cell? ⟨w.heap.size,4,none⟩=some (.int .i64 0):=by rw [Lib.cell_of_heap HL.out.res];rfl
      have z4:=Lib.frozen_of_heap HL.out.res 4
      have y5:wr.cell? ⟨w.heap.size,5,none⟩=some (.slice none 0 0):=by rw [Lib.cell_of_heap HL.out.res];rfl
      have z5:=Lib.frozen_of_heap HL.out.res 5
      have y6:wr.cell? ⟨w.heap.size,6,none⟩=some (.slice none 0 0):=by rw [Lib.cell_of_heap HL.out.res];rfl
      have z6:=Lib.frozen_of_heap HL.out.res 6
      have y7:wr.cell? ⟨w.heap.size,7,none⟩=some (.slice none 0 0):=by rw [Lib.cell_of_heap HL.out.res];rfl
      have z7:=Lib.frozen_of_heap HL.out.res 7
      have y8:wr.cell? ⟨w.heap.size,8,none⟩=some (.int .u64 0):=by rw [Lib.cell_of_heap HL.out.res];rfl
      have z8:=Lib.frozen_of_heap HL.out.res 8
      have y9:wr.cell? ⟨w.heap.size,9,none⟩=some (.int .i64 0):=by rw [Lib.cell_of_heap HL.out.res];rfl
      have z9:=Lib.frozen_of_heap HL.out.res 9
      have g0:WZ.cell? ⟨w.heap.size,0,none⟩=some (.int .i64 y.kind):=cz hbz
      have g1:WZ.cell? ⟨w.heap.size,1,none⟩=some (.string y.temp):=cz hbz
      have g2:WZ.cell? ⟨w.heap.size,2,none⟩=some (.string y.ka):=cz hbz
      have g3:WZ.cell? ⟨w.heap.size,3,none⟩=some (.string y.kb):=cz hbz
      have g4:WZ.cell? ⟨w.heap.size,4,none⟩=some (.int .i64 y.iff):=cz hbz
      have g5:WZ.cell? ⟨w.heap.size,5,none⟩=some (.slice y.vp y.vo.length y.vc):=cz hbz
      have g6:WZ.cell? ⟨w.heap.size,6,none⟩=some (.slice y.ep y.eo.length y.ec):=cz hbz
      have g7:WZ.cell? ⟨w.heap.size,7,none⟩=some (.slice y.pp y.po.length y.pc):=cz hbz
      have g8:WZ.cell? ⟨w.heap.size,8,none⟩=some (.int .u64 y.stamp):=cz hbz
      have g9:WZ.cell? ⟨w.heap.size,9,none⟩=some (.int .i64 y.num):=cz hbz
      clear hbz fz
      go_wp2_with fail
      try rw [hWZ]
      exact bodyPost_ret (v:=.tuple #[.agg #[.int .i64 y.kind,.string y.temp,.string y.ka,.string y.kb,.int .i64 y.iff,.slice y.vp y.vo.length y.vc,.slice y.ep y.eo.length y.ec,.slice y.pp y.po.length y.pc,.int .u64 y.stamp,.int .i64 y.num],.bool false]) (by simp [results,Tryz.results17,go_sem,g0,g1,g2,g3,g4,g5,g6,g7,g8,g9,hv1]) rfl HFIN.out
end
end Go.Proofs.YtjeogllmpjihaaaGreatDoor
